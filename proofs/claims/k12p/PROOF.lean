import PyProof.Rows.All
import Wide.All
import OpenK.AllK
import Wide.FinOn
import HandS.ForMost
import HandS.ForExc
import HandS.IsInst
import HandS.More
import HandS.Evl
import HandS.Strs
import HandS.SortInts
import HandS.Steps
import HandS.SetFor
import PyProof.EqAt
import PyProof.EqKinds
import PyProof.TupleCall
import Open.SpecLaws
import KE.OsGo
import KE.KExcSuper
import HandS.ForSpec
import HandS.ExcIs
import KE.KExcIs
import KE.KExcPX
import HandS.AnyAll
import PyProof.GenCompD
import PyProof.WalksMore
import HandS.Zip
import KE.GoesZip
import KE.GoesMore
import HandS.Nested
import HandS.TupAny
import HandS.SetKeys
import HandS.SetBool
import KE.DataMinMax
import HandS.Flow
import KE.DataAny
import PyProof.IsRules
import HandS.Rev
import HandS.RevTup
import HandS.EndOwn
import HandS.Walk
import PyProof.TupleIter
import PyProof.FactsAll.subtypes_4
import PySem.Challenge.RW_fontfall_k12_whole_more_signs_less_chang
import HandS.HeadWalk
set_option Elab.async false
set_option linter.all false
set_option maxRecDepth 100000
set_option maxHeartbeats 2000000
/-! data at values, what a reading evaluates to -/
namespace FF
open PySem L2
open Evl (Ex fresh_back)

mutual
inductive Dt (N : Addr → Prop) (H : Hp) : PyData → V → Prop
  | non : Dt N H .none .non
  | bl (b : Bool) : Dt N H (.bool b) (.bl b)
  | int (i : Int) : Dt N H (.int i) (.int i)
  | str (s : Str) : Dt N H (.str s) (.str s)
  | lst {a : Addr} {xs : List V} {ds : List PyData} : ¬ N a → H a = some (.lst xs) → DtA N H ds xs → Dt N H (.list ds) (.ref a)
  | tup {a : Addr} {xs : List V} {ds : List PyData} : H a = some (.tup xs) → DtA N H ds xs → Dt N H (.tuple ds) (.ref a)
inductive DtA (N : Addr → Prop) (H : Hp) : List PyData → List V → Prop
  | nil : DtA N H [] []
  | cons {d : PyData} {ds : List PyData} {v : V} {vs : List V} : Dt N H d v → DtA N H ds vs → DtA N H (d :: ds) (v :: vs)
end

abbrev No : Addr → Prop := fun _ => False
def Dom (H : Hp) : Addr → Prop := fun a => ∃ o, H a = some o

structure Rg where
  W : Addr → Prop
  I : Hp → Prop
  st : ∀ H H' : Hp, Ex H H' → I H → I H'
  wt : ∀ (H : Hp) (a : Addr), I H → W a → ∃ o, H a = some o ∧ ∀ ys, o ≠ .tup ys
  mv : ∀ (H : Hp) (p : Addr) (xs ys : List V), I H → ¬ W p → H p = some (.lst xs) → I (upd H p (.lst ys))

structure Le (R : Rg) (H H1 : Hp) : Prop where
  ext : ∀ a o, ¬ R.W a → H a = some o → H1 a = some o
  back : ∀ a, H1 a = none → H a = none
  ok0 : R.I H
  ok : R.I H1

/-- nothing may change -/
def R0 : Rg := ⟨fun _ => False, fun _ => True, fun _ _ _ h => h, fun _ _ _ h => h.elim, fun _ _ _ _ h _ _ => h⟩

section
variable {R : Rg} {N N' : Addr → Prop} {H H1 H2 : Hp}
theorem Le.refl (ok : R.I H) : Le R H H := ⟨fun _ _ _ h => h, fun _ h => h, ok, ok⟩
theorem Le.trans (a : Le R H H1) (b : Le R H1 H2) : Le R H H2 := ⟨fun x o w h => b.ext x o w (a.ext x o w h), fun x h => a.back x (b.back x h), a.ok0, b.ok⟩
theorem Le.of_ex (e : Ex H H1) (ok : R.I H) : Le R H H1 := ⟨fun a o _ h => e a o h, fun _ h => fresh_back e h, ok, R.st _ _ e ok⟩
theorem Le.new {p : Addr} {o : HO} (h : H p = none) (ok : R.I H) : Le R H (upd H p o) := Le.of_ex (Ex.new h) ok
theorem Le.r0 (e : Ex H H1) : Le R0 H H1 := Le.of_ex e trivial
theorem Le.ex (e : Le R0 H H1) : Ex H H1 := fun a o h => e.ext a o (fun z => z) h
/-- a list that wasn't there at first changes -/
theorem Le.put {p : Addr} {xs ys : List V} (e : Le R H H1) (hp : H p = none) (hl : H1 p = some (.lst xs)) : Le R H (upd H1 p (.lst ys)) where
  ext := fun a o w h => by rw [upd_ne (ne_of_none h hp)]; exact e.ext a o w h
  back := fun a h => by
    by_cases z : a = p
    · rw [z]; exact hp
    · rw [upd_ne z] at h; exact e.back a h
  ok0 := e.ok0
  ok := R.mv H1 p xs ys e.ok (fun w => by obtain ⟨zs, q, _⟩ := R.wt H p e.ok0 w; rw [hp] at q; cases q) hl
theorem ex_back (e : Ex H H1) : ∀ a, H1 a = none → H a = none := fun _ h => fresh_back e h

mutual
theorem Dt.mono (hN : ∀ a, N' a → N a) (hL : ∀ a xs, ¬ N a → H a = some (.lst xs) → H1 a = some (.lst xs)) (hT : ∀ a xs, H a = some (.tup xs) → H1 a = some (.tup xs)) : ∀ {d : PyData} {v : V}, Dt N H d v → Dt N' H1 d v
  | _, _, .non => .non
  | _, _, .bl b => .bl b
  | _, _, .int i => .int i
  | _, _, .str s => .str s
  | _, _, .lst n h r => .lst (fun z => n (hN _ z)) (hL _ _ n h) (DtA.mono hN hL hT r)
  | _, _, .tup h r => .tup (hT _ _ h) (DtA.mono hN hL hT r)
theorem DtA.mono (hN : ∀ a, N' a → N a) (hL : ∀ a xs, ¬ N a → H a = some (.lst xs) → H1 a = some (.lst xs)) (hT : ∀ a xs, H a = some (.tup xs) → H1 a = some (.tup xs)) : ∀ {ds : List PyData} {vs : List V}, DtA N H ds vs → DtA N' H1 ds vs
  | _, _, .nil => .nil
  | _, _, .cons r t => .cons (Dt.mono hN hL hT r) (DtA.mono hN hL hT t)
end
theorem Dt.weak {d : PyData} {v : V} (h : Dt N H d v) (hN : ∀ a, N' a → N a) : Dt N' H d v := h.mono hN (fun _ _ _ q => q) (fun _ _ q => q)
theorem DtA.weak {ds : List PyData} {vs : List V} (h : DtA N H ds vs) (hN : ∀ a, N' a → N a) : DtA N' H ds vs := h.mono hN (fun _ _ _ q => q) (fun _ _ q => q)
theorem Dt.no {d : PyData} {v : V} (h : Dt N H d v) : Dt No H d v := h.weak fun _ z => z.elim
theorem DtA.no {d : List PyData} {v : List V} (h : DtA N H d v) : DtA No H d v := h.weak fun _ z => z.elim
theorem notW (e : R.I H) {a : Addr} {xs : List V} (h : H a = some (.tup xs)) : ¬ R.W a := fun w => by
  obtain ⟨ys, q, n⟩ := R.wt H a e w
  rw [h] at q; cases q
  exact n _ rfl
theorem Dt.le {d : PyData} {v : V} (h : Dt N H d v) (e : Le R H H1) (hW : ∀ a, R.W a → N a) : Dt N H1 d v :=
  h.mono (fun _ z => z) (fun a xs n q => e.ext a _ (fun w => n (hW a w)) q) (fun a xs q => e.ext a _ (notW e.ok0 q) q)
theorem DtA.le {d : List PyData} {v : List V} (h : DtA N H d v) (e : Le R H H1) (hW : ∀ a, R.W a → N a) : DtA N H1 d v :=
  h.mono (fun _ z => z) (fun a xs n q => e.ext a _ (fun w => n (hW a w)) q) (fun a xs q => e.ext a _ (notW e.ok0 q) q)
theorem Dt.ex {d : PyData} {v : V} (h : Dt N H d v) (e : Ex H H1) : Dt N H1 d v := h.mono (fun _ z => z) (fun a xs n q => e a _ q) (fun a xs q => e a _ q)
theorem DtA.ex {d : List PyData} {v : List V} (h : DtA N H d v) (e : Ex H H1) : DtA N H1 d v := h.mono (fun _ z => z) (fun a xs n q => e a _ q) (fun a xs q => e a _ q)
/-- a list that is shut out changes -/
theorem Dt.put {d : PyData} {v : V} {p : Addr} {xs : List V} {o : HO} (h : Dt N H d v) (hp : N p) (hl : H p = some (.lst xs)) : Dt N (upd H p o) d v :=
  h.mono (fun _ z => z) (fun a ys n q => by rw [upd_ne (fun z => n (by rw [z]; exact hp))]; exact q) (fun a ys q => by rw [upd_ne (ne_of q hl (by intro z; cases z))]; exact q)
theorem DtA.put {d : List PyData} {v : List V} {p : Addr} {xs : List V} {o : HO} (h : DtA N H d v) (hp : N p) (hl : H p = some (.lst xs)) : DtA N (upd H p o) d v :=
  h.mono (fun _ z => z) (fun a ys n q => by rw [upd_ne (fun z => n (by rw [z]; exact hp))]; exact q) (fun a ys q => by rw [upd_ne (ne_of q hl (by intro z; cases z))]; exact q)
/-- one more that is shut out: it wasn't there -/
theorem Dt.more {d : PyData} {v : V} {p : Addr} (h : Dt N H d v) (hp : H p = none) : Dt (fun a => a = p ∨ N a) H d v := by
  have main : ∀ (d : PyData) (v : V), Dt N H d v → Dt (fun a => a = p ∨ N a) H d v := fun d v => by
    refine Dt.rec (motive_1 := fun d v _ => Dt (fun a => a = p ∨ N a) H d v) (motive_2 := fun ds vs _ => DtA (fun a => a = p ∨ N a) H ds vs) .non .bl .int .str ?_ ?_ .nil ?_
    · intro a xs ds n q _ r
      exact .lst (fun z => z.elim (fun z => by rw [z, hp] at q; cases q) n) q r
    · intro a xs ds q _ r
      exact .tup q r
    · intro d ds v vs _ _ r t
      exact .cons r t
  exact main d v h
theorem DtA.more : ∀ {ds : List PyData} {vs : List V} {p : Addr}, DtA N H ds vs → H p = none → DtA (fun a => a = p ∨ N a) H ds vs
  | _, _, _, .nil, _ => .nil
  | _, _, _, .cons r t, h => .cons (r.more h) (t.more h)
theorem DtA.length : ∀ {ds : List PyData} {vs : List V}, DtA N H ds vs → vs.length = ds.length
  | _, _, .nil => rfl
  | _, _, .cons _ t => by rw [List.length_cons, List.length_cons, DtA.length t]
theorem DtA.get : ∀ {ds : List PyData} {vs : List V} {i : Nat} {d : PyData}, DtA N H ds vs → ds[i]? = some d → ∃ v, vs[i]? = some v ∧ Dt N H d v
  | _, _, _, _, .nil, e => by simp at e
  | _, _, 0, d, .cons r _, e => by simp at e; subst e; exact ⟨_, rfl, r⟩
  | _, _, i + 1, d, .cons _ t, e => by
    obtain ⟨v, h1, h2⟩ := DtA.get (i := i) (d := d) t (by simpa using e)
    exact ⟨v, by simpa using h1, h2⟩
theorem DtA.getV {ds : List PyData} {vs : List V} {i : Nat} {v : V} (h : DtA N H ds vs) (e : vs[i]? = some v) : ∃ d, ds[i]? = some d ∧ Dt N H d v := by
  have hi := (List.getElem?_eq_some_iff.mp e).1
  rw [h.length] at hi
  obtain ⟨w, e1, r⟩ := h.get (List.getElem?_eq_getElem hi)
  rw [e] at e1; cases e1
  exact ⟨_, List.getElem?_eq_getElem hi, r⟩
theorem DtA.append : ∀ {ds es : List PyData} {vs ws : List V}, DtA N H ds vs → DtA N H es ws → DtA N H (ds ++ es) (vs ++ ws)
  | _, _, _, _, .nil, h => h
  | _, _, _, _, .cons r t, h => .cons r (DtA.append t h)
theorem DtA.one {d : PyData} {v : V} (h : Dt N H d v) : DtA N H [d] [v] := .cons h .nil
theorem DtA.take : ∀ {ds : List PyData} {vs : List V} (n : Nat), DtA N H ds vs → DtA N H (ds.take n) (vs.take n)
  | _, _, 0, _ => by simpa using DtA.nil
  | _, _, _ + 1, .nil => .nil
  | _, _, n + 1, .cons r t => .cons r (DtA.take n t)
theorem DtA.drop : ∀ {ds : List PyData} {vs : List V} (n : Nat), DtA N H ds vs → DtA N H (ds.drop n) (vs.drop n)
  | _, _, 0, h => h
  | _, _, _ + 1, .nil => .nil
  | _, _, n + 1, .cons _ t => DtA.drop n t
theorem DtA.rev : ∀ {ds : List PyData} {vs : List V}, DtA N H ds vs → DtA N H ds.reverse vs.reverse
  | _, _, .nil => .nil
  | _, _, .cons r t => by
    rw [List.reverse_cons, List.reverse_cons]
    exact (DtA.rev t).append (.one r)
theorem DtA.ints : ∀ {ns : List Int} {vs : List V}, DtA N H (ns.map PyData.int) vs → vs = ns.map V.int
  | [], _, .nil => rfl
  | n :: ns, _, .cons r t => by
    cases r
    rw [DtA.ints t]
    rfl
theorem dta_ints : ∀ (ns : List Int), DtA N H (ns.map PyData.int) (ns.map V.int)
  | [] => .nil
  | n :: ns => .cons (.int n) (dta_ints ns)
theorem DtA.strs : ∀ {ns : List Str} {vs : List V}, DtA N H (ns.map PyData.str) vs → vs = ns.map V.str
  | [], _, .nil => rfl
  | n :: ns, _, .cons r t => by
    cases r
    rw [DtA.strs t]
    rfl
theorem dta_strs : ∀ (ns : List Str), DtA N H (ns.map PyData.str) (ns.map V.str)
  | [] => .nil
  | n :: ns => .cons (.str n) (dta_strs ns)
/-! to the library -/
mutual
theorem Dt.dp (K : PySem.W.Frag) : ∀ {d : PyData} {v : V}, Dt N H d v → Dp K H v d
  | _, _, .non => .non
  | _, _, .bl b => .bl b
  | _, _, .int i => .int i
  | _, _, .str s => .str s
  | _, _, .lst n h r => .lst (SqL.of h) (DtA.dp K r)
  | _, _, .tup h r => .tup (SqT.of h) (DtA.dp K r)
theorem DtA.dp (K : PySem.W.Frag) : ∀ {ds : List PyData} {vs : List V}, DtA N H ds vs → DpAll K H vs ds
  | _, _, .nil => .nil
  | _, _, .cons r t => .cons (Dt.dp K r) (DtA.dp K t)
end

/-- N covers what may change, and is there -/
structure Nk (R : Rg) (N : Addr → Prop) (H : Hp) : Prop where
  sub : ∀ a, R.W a → N a
  inn : ∀ a, N a → H a ≠ none
theorem Nk.le (n : Nk R N H) (e : Le R H H1) : Nk R N H1 := ⟨n.sub, fun a h q => n.inn a h (e.back a q)⟩
theorem Nk.fresh (n : Nk R N H) {p : Addr} (h : H p = none) : ¬ N p := fun z => n.inn p z h
theorem Nk.more (n : Nk R N H) {p : Addr} (h : H p ≠ none) : Nk R (fun a => a = p ∨ N a) H := ⟨fun a w => .inr (n.sub a w), fun a z => z.elim (fun z => by rw [z]; exact h) (n.inn a)⟩
theorem Nk.dom (ok : R.I H) : Nk R (Dom H) H := ⟨fun a w => let ⟨xs, q, _⟩ := R.wt H a ok w; ⟨_, q⟩, fun a ⟨o, q⟩ z => by rw [q] at z; cases z⟩
theorem Nk.domle (n : Nk R N H) : ∀ a, N a → Dom H a := fun a h => by
  cases q : H a with
  | none => exact absurd q (n.inn a h)
  | some o => exact ⟨o, q⟩
theorem nk0 : Nk R0 No H := ⟨fun _ z => z, fun _ z => z.elim⟩
end

/-! ### judgements -/
def Ev (R : Rg) (te : TE) (σ : L2.St) (H : Hp) (N : Addr → Prop) (d : PyData) : Prop := ∀ H1, Le R H H1 → ∀ Q : VK, (∀ v H2, Le R H1 H2 → Dt N H2 d v → Q v H2) → te σ H1 Q
def EvT (R : Rg) (tt : TT) (σ : L2.St) (H : Hp) (b : Bool) : Prop := ∀ H1, Le R H H1 → ∀ Q : Bool → Hp → Prop, (∀ H2, Le R H1 H2 → Q b H2) → tt σ H1 Q
def EvA (R : Rg) (ta : TA) (σ : L2.St) (H : Hp) (N : Addr → Prop) (ds : List PyData) : Prop := ∀ H1, Le R H H1 → ∀ Q : List V → Hp → Prop, (∀ vs H2, Le R H1 H2 → DtA N H2 ds vs → Q vs H2) → ta σ H1 Q
def EvO (R : Rg) (to : TO) (σ : L2.St) (H : Hp) (o : Option Int) : Prop := ∀ H1, Le R H H1 → ∀ Q : Option Int → Hp → Prop, (∀ H2, Le R H1 H2 → Q o H2) → to σ H1 Q
/-- a two-place operation on data; a call on data -/
def R2V (R : Rg) (r : R2) (H : Hp) (N : Addr → Prop) (x y z : PyData) : Prop := ∀ H1 u v, Le R H H1 → Dt N H1 x u → Dt N H1 y v → ∀ Q : VK, (∀ w H2, Le R H1 H2 → Dt N H2 z w → Q w H2) → r u v H1 Q
def RCV (R : Rg) (r : List V → Hp → VK → Prop) (H : Hp) (N : Addr → Prop) (ds : List PyData) (z : PyData) : Prop := ∀ H1 vs, Le R H H1 → DtA N H1 ds vs → ∀ Q : VK, (∀ w H2, Le R H1 H2 → Dt N H2 z w → Q w H2) → r vs H1 Q

section
variable {R : Rg} {K : PySem.W.Frag} {σ : L2.St} {H H' : Hp} {N N' : Addr → Prop} {ta tb te tx : TE} {t u : TT} {x y z d : PyData} {r : R2}
theorem Ev.le (h : Ev R te σ H N d) (e : Le R H H') : Ev R te σ H' N d := fun H1 a Q q => h H1 (e.trans a) Q q
theorem EvT.le {b : Bool} (h : EvT R t σ H b) (e : Le R H H') : EvT R t σ H' b := fun H1 a Q q => h H1 (e.trans a) Q q
theorem EvA.le {ta : TA} {ds : List PyData} (h : EvA R ta σ H N ds) (e : Le R H H') : EvA R ta σ H' N ds := fun H1 a Q q => h H1 (e.trans a) Q q
/-- now -/
theorem Ev.go (h : Ev R te σ H N d) (ok : R.I H) {Q : VK} (q : ∀ v H2, Le R H H2 → Dt N H2 d v → Q v H2) : te σ H Q := h H (Le.refl ok) Q q
theorem EvT.go {b : Bool} (h : EvT R t σ H b) (ok : R.I H) {Q : Bool → Hp → Prop} (q : ∀ H2, Le R H H2 → Q b H2) : t σ H Q := h H (Le.refl ok) Q q
theorem EvA.go {ta : TA} {ds : List PyData} (h : EvA R ta σ H N ds) (ok : R.I H) {Q : List V → Hp → Prop} (q : ∀ v H2, Le R H H2 → DtA N H2 ds v → Q v H2) : ta σ H Q := h H (Le.refl ok) Q q
theorem Ev.is {e : PyData} (h : Ev R te σ H N d) (q : d = e) : Ev R te σ H N e := q ▸ h
theorem EvT.is {a b : Bool} (h : EvT R t σ H a) (q : a = b) : EvT R t σ H b := q ▸ h
theorem Ev.weak (h : Ev R te σ H N d) (hN : ∀ a, N' a → N a) : Ev R te σ H N' d := fun H1 e Q q => h H1 e Q fun v H2 e2 r => q v H2 e2 (r.weak hN)
theorem e_var {i : Nat} {v : V} (h : σ[i]? = some (some v)) (r : Dt N H d v) (hW : ∀ a, R.W a → N a) : Ev R (tVar i) σ H N d := fun H1 e _ q => ⟨v, h, q v H1 (Le.refl e.ok) (r.le e hW)⟩
theorem e_vi {i : Nat} {n : Int} (h : σ[i]? = some (some (.int n))) : Ev R (tVar i) σ H N (.int n) := fun H1 e _ q => ⟨_, h, q _ H1 (Le.refl e.ok) (.int n)⟩
theorem e_vs {i : Nat} {n : Str} (h : σ[i]? = some (some (.str n))) : Ev R (tVar i) σ H N (.str n) := fun H1 e _ q => ⟨_, h, q _ H1 (Le.refl e.ok) (.str n)⟩
theorem e_vb {i : Nat} {n : Bool} (h : σ[i]? = some (some (.bl n))) : Ev R (tVar i) σ H N (.bool n) := fun H1 e _ q => ⟨_, h, q _ H1 (Le.refl e.ok) (.bl n)⟩
theorem e_int {i : Int} : Ev R (tC (.int i)) σ H N (.int i) := fun H1 e _ q => q _ H1 (Le.refl e.ok) (.int i)
theorem e_str {i : Str} : Ev R (tC (.str i)) σ H N (.str i) := fun H1 e _ q => q _ H1 (Le.refl e.ok) (.str i)
theorem e_bl {i : Bool} : Ev R (tC (.bl i)) σ H N (.bool i) := fun H1 e _ q => q _ H1 (Le.refl e.ok) (.bl i)
theorem e_non : Ev R (tC .non) σ H N .none := fun H1 e _ q => q _ H1 (Le.refl e.ok) .non
theorem e_op (ha : Ev R ta σ H N x) (hb : Ev R tb σ H N y) (hr : R2V R r H N x y z) (hW : ∀ a, R.W a → N a) : Ev R (tOp r ta tb) σ H N z := fun H1 e Q q =>
  ha H1 e _ fun u H2 e2 ru => hb H2 (e.trans e2) _ fun v H3 e3 rv => hr H3 u v ((e.trans e2).trans e3) (ru.le e3 hW) rv Q fun w H4 e4 rw => q w H4 ((e2.trans e3).trans e4) rw
/-- of whole numbers -/
theorem e_I0 {g : Int → Int → Int} {i j : Int} (ha : Ev R ta σ H N (.int i)) (hb : Ev R tb σ H N (.int j)) : Ev R (tOp (rI0 fun i j => .int (g i j)) ta tb) σ H N (.int (g i j)) := fun H1 e Q q =>
  ha H1 e _ fun u H2 e2 ru => hb H2 (e.trans e2) _ fun v H3 e3 rv => by
    cases ru; cases rv
    exact ⟨i, j, rfl, rfl, q _ H3 (e2.trans e3) (.int _)⟩
theorem e_IB {g : Int → Int → Bool} {i j : Int} (ha : Ev R ta σ H N (.int i)) (hb : Ev R tb σ H N (.int j)) : Ev R (tOp (rI0 fun i j => .bl (g i j)) ta tb) σ H N (.bool (g i j)) := fun H1 e Q q =>
  ha H1 e _ fun u H2 e2 ru => hb H2 (e.trans e2) _ fun v H3 e3 rv => by
    cases ru; cases rv
    exact ⟨i, j, rfl, rfl, q _ H3 (e2.trans e3) (.bl _)⟩
theorem e_I {C : Int → Int → Prop} {g : Int → Int → Int} {i j : Int} (ha : Ev R ta σ H N (.int i)) (hb : Ev R tb σ H N (.int j)) (hc : C i j) : Ev R (tOp (rI C fun i j => .int (g i j)) ta tb) σ H N (.int (g i j)) := fun H1 e Q q =>
  ha H1 e _ fun u H2 e2 ru => hb H2 (e.trans e2) _ fun v H3 e3 rv => by
    cases ru; cases rv
    exact ⟨i, j, rfl, rfl, hc, q _ H3 (e2.trans e3) (.int _)⟩
end
end FF
set_option Elab.async false
set_option linter.all false
set_option maxRecDepth 100000
set_option maxHeartbeats 2000000
/-! rules that serve several kinds at once, and what they evaluate to -/
namespace FF
open PySem L2
open Evl (Ex fresh_back)

theorem Dt.listy {N : Addr → Prop} {H : Hp} {ds : List PyData} {v : V} (h : Dt N H (.list ds) v) : ∃ a xs, v = .ref a ∧ ¬ N a ∧ H a = some (.lst xs) ∧ DtA N H ds xs := by
  cases h with
  | lst n h r => exact ⟨_, _, rfl, n, h, r⟩
theorem Dt.tupy {N : Addr → Prop} {H : Hp} {ds : List PyData} {v : V} (h : Dt N H (.tuple ds) v) : ∃ a xs, v = .ref a ∧ H a = some (.tup xs) ∧ DtA N H ds xs := by
  cases h with
  | tup h r => exact ⟨_, _, rfl, h, r⟩
/-- a new list, a new tuple of data -/
theorem new_l {R : Rg} {N : Addr → Prop} {H0 H : Hp} {ds : List PyData} {xs : List V} {p : Addr} (nk : Nk R N H0) (e : Le R H0 H) (hp : H p = none) (r : DtA N H ds xs) : Le R H (upd H p (.lst xs)) ∧ Dt N (upd H p (.lst xs)) (.list ds) (.ref p) :=
  have l3 : Le R H (upd H p (.lst xs)) := Le.new hp e.ok
  ⟨l3, .lst ((nk.le e).fresh hp) upd_same (r.le l3 nk.sub)⟩
theorem new_t {R : Rg} {N : Addr → Prop} {H : Hp} {ds : List PyData} {xs : List V} {p : Addr} (hW : ∀ a, R.W a → N a) (ok : R.I H) (hp : H p = none) (r : DtA N H ds xs) : Le R H (upd H p (.tup xs)) ∧ Dt N (upd H p (.tup xs)) (.tuple ds) (.ref p) :=
  have l3 : Le R H (upd H p (.tup xs)) := Le.new hp ok
  ⟨l3, .tup upd_same (r.le l3 hW)⟩
/-! ### one rule for each sign -/
def rStrCat : R2 := fun x y H Q => ∃ i j, x = .str i ∧ y = .str j ∧ i.length + j.length ≤ sizeLine ∧ Q (.str (i ++ j)) H
def rCatTup (K : PySem.W.Frag) : R2 := fun x y H Q => ∃ a b xs ys, x = .ref a ∧ y = .ref b ∧ SqT K H a xs ∧ SqT K H b ys ∧ xs ≠ [] ∧ xs.length + ys.length ≤ sizeLine ∧ (ys = [] → Q (.ref a) H) ∧ (ys ≠ [] → ∀ p, H p = none → Q (.ref p) (upd H p (.tup (xs ++ ys))))
def rAddU (K : PySem.W.Frag) : R2 := fun x y H Q => rI0 (fun i j => .int (i + j)) x y H Q ∨ (rStrCat x y H Q ∨ (rCat x y H Q ∨ rCatT K x y H Q))
def rMulU : R2 := fun x y H Q => rI CMul (fun i j => .int (i * j)) x y H Q ∨ rRep x y H Q
def rSign (neg : Bool) : R2 := fun x y H Q => ∃ (c : Nat) (z : Str), x = .str ⟨#[c]⟩ ∧ y = .str z ∧ Q (.bl (if neg then !decide (c ∈ z.cps.toList) else decide (c ∈ z.cps.toList))) H
def rInU (K : PySem.W.Frag) (neg : Bool) : R2 := fun x y H Q => rIn K neg x y H Q ∨ rSign neg x y H Q
def rSlU (K : PySem.W.Frag) : V → Option Int → Option Int → Hp → VK → Prop := fun x lo hi H Q => rSlL K x lo hi H Q ∨ (rSlT K x lo hi H Q ∨ rSlS x lo hi H Q)
def rLenU (K : PySem.W.Frag) : List V → Hp → VK → Prop := fun xs H Q => (∃ p ys, xs = [.ref p] ∧ (SqL K H p ys ∨ SqT K H p ys) ∧ Q (.int ys.length) H) ∨ ∃ z, xs = [.str z] ∧ z.length ≤ sizeLine ∧ Q (.int z.length) H
def rIntU : List V → Hp → VK → Prop := fun xs H Q => ((∃ i, xs = [.int i] ∧ Q (.int i) H) ∨ ∃ k, xs = [.bl k] ∧ Q (.int (if k then 1 else 0)) H) ∨ ∃ a n, xs = [.str a] ∧ PySem.intText? a = some n ∧ a.length ≤ 640 ∧ Q (.int n) H
def rListU (K : PySem.W.Frag) : List V → Hp → VK → Prop := fun xs H Q => ∃ p ys, xs = [.ref p] ∧ (SqL K H p ys ∨ SqT K H p ys) ∧ ∀ l, H l = none → Q (.ref l) (upd H l (.lst ys))
def rTupU (K : PySem.W.Frag) : List V → Hp → VK → Prop := fun xs H Q => ∃ p ys, xs = [.ref p] ∧ ((SqL K H p ys ∧ ∀ l, H l = none → Q (.ref l) (upd H l (.tup ys))) ∨ (SqT K H p ys ∧ Q (.ref p) H))
def rIsN (neg : Bool) : R2 := fun x y H Q => y = .non ∧ Q (.bl (if neg then !decide (x = .non) else decide (x = .non))) H
section
variable {X : Cx}
theorem op_addU : OpR X (binaryOp .Add) (rAddU X.K) := OpR.or op_add (OpR.or op_add_str (OpR.or op_cat op_catT))
theorem op_mulU : OpR X (binaryOp .Mult) rMulU := OpR.or op_mul op_rep
theorem op_inU : OpR X (compareOp .In) (rInU X.K false) := OpR.or op_in_seq op_in_sign
theorem op_notInU : OpR X (compareOp .NotIn) (rInU X.K true) := OpR.or op_notIn_seq op_notIn_sign
theorem op_isU : OpR X (compareOp .Is) (rIsN false) := op_isN
theorem op_isNotU : OpR X (compareOp .IsNot) (rIsN true) := op_notN
theorem sl_U : SlR X (rSlU X.K) := SlR.or sl_list (SlR.or sl_tup sl_str)
theorem call_lenU : CallR X (.builtin "len") (rLenU X.K) := CallR.or call_len_seq call_len_str
theorem call_intU : CallR X (.type "int") rIntU := CallR.or call_int1 call_int_str
theorem call_listU : CallR X (.type "list") (rListU X.K) := call_list_of
theorem call_tupU : CallR X (.type "tuple") (rTupU X.K) := call_tuple_of
end

/-! ### a def of the text, as callers see it -/
structure Cal (P : Program) (w : World) (K : PySem.W.Frag) (mg : Str → Option Value) (base : Heap) (CX : CXT) (x : Str) (k : Nat) (ps : List Str) (sp : Sp) : Prop where
  ex : ∃ f fd, mg x = some (.ref f) ∧ PySem.W.keepIn K (.ref f) = true ∧ Binds K fd ps [] ∧ FnOk P w K mg base CX k f fd ps sp
theorem Cal.mono {P : Program} {w : World} {K : PySem.W.Frag} {mg : Str → Option Value} {base : Heap} {CX : CXT} {x : Str} {j k : Nat} {ps : List Str} {sp : Sp} (C : Cal P w K mg base CX x j ps sp) (h : j ≤ k) : Cal P w K mg base CX x k ps sp :=
  ⟨let ⟨f, fd, a, b, c, d⟩ := C.ex; ⟨f, fd, a, b, c, d.mono h⟩⟩
section
variable {X : Cx} {k : Nat} {x : Str} {p pos : Pos} {ps : List Str} {sp : Sp} {e : Expr} {es : List Expr} {t : TA}
theorem pe_cal (C : Cal X.prog X.w X.K X.mg X.base CX0 x k ps sp) (hr : Room k X.A) (ha : PA X (e :: es) t) (hg : Gl X x := by rfl) (hdb : (x == ("__debug__" : Str)) = false := by decide)
    (he : starEach (e :: es) X.env = (false, eval e X.env) :: starEach es X.env := by rfl) (hpl : (backTo pos (starEach es X.env)).any (·.1) = false := by rfl) : PE X (.Call (.Name x p) (e :: es) [] pos) (tCall sp [] E0 t) := by
  obtain ⟨f, fd, a, b, c, d⟩ := C.ex
  exact pe_call d hr hg a b c .nil pass0 ha hdb he hpl
end
/-- a def that stands at the top -/
structure Top (K : PySem.W.Frag) (mg : Str → Option Value) (x : Str) (st : Stmt) : Prop where
  ex : ∃ f fd, mg x = some (.ref f) ∧ Fun K x x st f fd
theorem Top.cal {P : Program} {w : World} {K : PySem.W.Frag} {mg : Str → Option Value} {base : Heap} {CX : CXT} {x : Str} {st : Stmt} {k : Nat} {ps : List Str} {sp : Sp} (T : Top K mg x st)
    (h : ∀ (kV doc pm : Value) (an : Option Addr) (cdv ct : Value) (us : List Value), us.length = ps.length → bindArgs (PySem.W.fnOf x x (defArgs st) (defBody st) (defScope st) .none kV doc pm an cdv ct) ⟨us, []⟩ = pure (ps.zip us))
    (ok : ∀ f fd, Fun K x x st f fd → FnOk P w K mg base CX k f fd ps sp) : Cal P w K mg base CX x k ps sp :=
  ⟨let ⟨f, fd, a, F⟩ := T.ex; ⟨f, fd, a, F.kp, F.binds h, ok f fd F⟩⟩
theorem top_mk {K : PySem.W.Frag} {h : Heap} {mg : Str → Option Value} (X : K.In h) (G : h.Ns mainGlobals mg) {x : Str} {st : Stmt} {f : Addr} {oc : Value} {od an : Option Addr} {osl : Array (Option Value)} {kV doc pm cdv ct : Value}
    (a : PySem.W.nsIn K mainGlobals x = some (some (.ref f))) (l : K.lookup f = some ⟨oc, od, .func (PySem.W.fnOf x x (defArgs st) (defBody st) (defScope st) .none kV doc pm an cdv ct), osl⟩)
    (c : PySem.W.codeIn K cdv x = true) (k : PySem.W.keepIn K (.ref f) = true) : Top K mg x st := ⟨f, _, PySem.W.mg_of X G a, fun_mk l c k⟩

/-! ### what they evaluate to -/
section
variable {R : Rg} {K : PySem.W.Frag} {σ : L2.St} {H H' : Hp} {N N' : Addr → Prop} {ta tb te tx : TE} {t u : TT} {x y z d : PyData} {r : R2}
theorem e_add {i j : Int} (ha : Ev R ta σ H N (.int i)) (hb : Ev R tb σ H N (.int j)) : Ev R (tOp (rAddU K) ta tb) σ H N (.int (i + j)) := fun H1 e Q q =>
  ha H1 e _ fun u H2 e2 ru => hb H2 (e.trans e2) _ fun v H3 e3 rv => by
    cases ru; cases rv
    exact .inl ⟨i, j, rfl, rfl, q _ H3 (e2.trans e3) (.int _)⟩
theorem e_adds {i j : Str} (ha : Ev R ta σ H N (.str i)) (hb : Ev R tb σ H N (.str j)) (hz : i.length + j.length ≤ 100000) : Ev R (tOp (rAddU K) ta tb) σ H N (.str (i ++ j)) := fun H1 e Q q =>
  ha H1 e _ fun u H2 e2 ru => hb H2 (e.trans e2) _ fun v H3 e3 rv => by
    cases ru; cases rv
    exact .inr (.inl ⟨i, j, rfl, rfl, Evl.sz_of hz, q _ H3 (e2.trans e3) (.str _)⟩)
theorem e_addl {ds es : List PyData} (ha : Ev R ta σ H N (.list ds)) (hb : Ev R tb σ H N (.list es)) (hz : ds.length + es.length ≤ 100000) (nk : Nk R N H) : Ev R (tOp (rAddU K) ta tb) σ H N (.list (ds ++ es)) := fun H1 e Q q =>
  ha H1 e _ fun u H2 e2 ru => hb H2 (e.trans e2) _ fun v H3 e3 rv => by
    obtain ⟨a1, x1, rfl, n1, h1, r1⟩ := (ru.le e3 nk.sub).listy
    obtain ⟨a2, x2, rfl, n2, h2, r2⟩ := rv.listy
    refine .inr (.inr (.inl ⟨_, _, _, _, rfl, rfl, h1, h2, ?_, fun p hp => ?_⟩))
    · rw [r1.length, r2.length]
      exact Evl.sz_of hz
    · obtain ⟨l3, d3⟩ := new_l nk ((e.trans e2).trans e3) hp (r1.append r2)
      exact q _ _ ((e2.trans e3).trans l3) d3
theorem e_mul {i j : Int} (ha : Ev R ta σ H N (.int i)) (hb : Ev R tb σ H N (.int j)) (hc : (-(2 ^ 64) < i ∧ i < 2 ^ 64) ∨ (-(2 ^ 64) < j ∧ j < 2 ^ 64)) : Ev R (tOp rMulU ta tb) σ H N (.int (i * j)) := fun H1 e Q q =>
  ha H1 e _ fun u H2 e2 ru => hb H2 (e.trans e2) _ fun v H3 e3 rv => by
    cases ru; cases rv
    exact .inl ⟨i, j, rfl, rfl, hc, q _ H3 (e2.trans e3) (.int _)⟩
def isNo : PyData → Bool
  | .none => true
  | _ => false
theorem e_isN {neg : Bool} (ha : Ev R ta σ H N d) : Ev R (tOp (rIsN neg) ta (tC .non)) σ H N (.bool (if neg then !isNo d else isNo d)) := fun H1 e Q q =>
  ha H1 e _ fun u H2 e2 ru => by
    refine ⟨rfl, ?_⟩
    cases ru <;> exact q _ H2 e2 (by cases neg <;> exact .bl _)
theorem e_isNo {b : Bool} (ha : Ev R ta σ H N d) (hb : isNo d = b := by rfl) : Ev R (tOp (rIsN false) ta (tC .non)) σ H N (.bool b) := hb ▸ e_isN (neg := false) ha
theorem e_eq {e : PyData} (ha : Ev R ta σ H N d) (hb : Ev R tb σ H N e) (hW : ∀ a, R.W a → N a) (s1 : SeqAt.shaped d = true) (s2 : SeqAt.shaped e = true) : Ev R (tOp (rEqD K) ta tb) σ H N (.bool (PyData.eqv d e)) := fun H1 e Q q =>
  ha H1 e _ fun u H2 e2 ru => hb H2 (e.trans e2) _ fun v H3 e3 rv => ⟨_, _, (ru.le e3 hW).dp K, rv.dp K, s1, s2, q _ H3 (e2.trans e3) (.bl _)⟩
theorem e_ne {e : PyData} (ha : Ev R ta σ H N d) (hb : Ev R tb σ H N e) (hW : ∀ a, R.W a → N a) (s1 : SeqAt.shaped d = true) (s2 : SeqAt.shaped e = true) : Ev R (tOp (rNeD K) ta tb) σ H N (.bool (!PyData.eqv d e)) := fun H1 e Q q =>
  ha H1 e _ fun u H2 e2 ru => hb H2 (e.trans e2) _ fun v H3 e3 rv => ⟨_, _, (ru.le e3 hW).dp K, rv.dp K, s1, s2, q _ H3 (e2.trans e3) (.bl _)⟩
theorem atI_vs {ds : List PyData} {vs : List V} {i : Int} (h : DtA N H ds vs) (e : atI ds i = some d) : ∃ v, atI vs i = some v ∧ Dt N H d v := by
  unfold atI at e ⊢
  rw [h.length]
  cases q : ixN ds.length i with
  | none => rw [q] at e; cases e
  | some j =>
    rw [q] at e
    exact h.get e
theorem e_ixl {ds : List PyData} {i : Int} (ha : Ev R ta σ H N (.list ds)) (hb : Ev R tb σ H N (.int i)) (hW : ∀ a, R.W a → N a) (hi : atI ds i = some d) : Ev R (tOp (rIx K) ta tb) σ H N d := fun H1 e Q q =>
  ha H1 e _ fun u H2 e2 ru => hb H2 (e.trans e2) _ fun v H3 e3 rv => by
    have ru3 := ru.le e3 hW
    cases rv
    cases ru3 with
    | lst n1 h1 r1 =>
      obtain ⟨v, hv, rv⟩ := atI_vs r1 hi
      exact .inl ⟨_, _, i, v, rfl, rfl, SqL.of h1, hv, q _ H3 (e2.trans e3) rv⟩
theorem e_ixt {ds : List PyData} {i : Int} (ha : Ev R ta σ H N (.tuple ds)) (hb : Ev R tb σ H N (.int i)) (hW : ∀ a, R.W a → N a) (hi : atI ds i = some d) : Ev R (tOp (rIx K) ta tb) σ H N d := fun H1 e Q q =>
  ha H1 e _ fun u H2 e2 ru => hb H2 (e.trans e2) _ fun v H3 e3 rv => by
    have ru3 := ru.le e3 hW
    cases rv
    cases ru3 with
    | tup h1 r1 =>
      obtain ⟨v, hv, rv⟩ := atI_vs r1 hi
      exact .inr (.inl ⟨_, _, i, v, rfl, rfl, SqT.of h1, hv, q _ H3 (e2.trans e3) rv⟩)
theorem e_ixs {s : Str} {i : Int} {c : Nat} (ha : Ev R ta σ H N (.str s)) (hb : Ev R tb σ H N (.int i)) (hz : s.length ≤ 100000) (hi : atI s.cps.toList i = some c) : Ev R (tOp (rIx K) ta tb) σ H N (.str ⟨#[c]⟩) := fun H1 e Q q =>
  ha H1 e _ fun u H2 e2 ru => hb H2 (e.trans e2) _ fun v H3 e3 rv => by
    cases ru; cases rv
    exact .inr (.inr ⟨_, i, c, rfl, rfl, Evl.sz_of hz, hi, q _ H3 (e2.trans e3) (.str _)⟩)
theorem a_nil : EvA R tNil σ H N [] := fun H1 e _ q => q [] H1 (Le.refl e.ok) .nil
theorem a_cons {tr : TA} {ds : List PyData} (h : Ev R ta σ H N d) (hr : EvA R tr σ H N ds) (hW : ∀ a, R.W a → N a) : EvA R (tCons ta tr) σ H N (d :: ds) := fun H1 e _ q =>
  h H1 e _ fun v H2 e2 rv => hr H2 (e.trans e2) _ fun vs H3 e3 rs => q _ H3 (e2.trans e3) (.cons (rv.le e3 hW) rs)
theorem a_one (h : Ev R ta σ H N d) : EvA R (tCons ta tNil) σ H N [d] := fun H1 e _ q => h H1 e _ fun v H2 e2 rv => q _ H2 e2 (.one rv)
theorem e_lst {ta : TA} {ds : List PyData} (h : EvA R ta σ H N ds) (nk : Nk R N H) (hz : ds.length ≤ 100000) : Ev R (tLst ta) σ H N (.list ds) := fun H1 e Q q =>
  h H1 e _ fun vs H2 e2 r => ⟨by rw [r.length]; exact Evl.sz_of hz, fun p hp => by
    have l3 : Le R H2 (upd H2 p (.lst vs)) := Le.new hp e2.ok
    exact q _ _ (e2.trans l3) (.lst ((nk.le (e.trans e2)).fresh hp) upd_same (r.le l3 nk.sub))⟩
theorem e_tup {ta : TA} {ds : List PyData} (h : EvA R ta σ H N ds) (hW : ∀ a, R.W a → N a) (hz : ds.length ≤ 100000) : Ev R (tTup ta) σ H N (.tuple ds) := fun H1 e Q q =>
  h H1 e _ fun vs H2 e2 r => ⟨by rw [r.length]; exact Evl.sz_of hz, fun p hp => by
    have l3 : Le R H2 (upd H2 p (.tup vs)) := Le.new hp e2.ok
    exact q _ _ (e2.trans l3) (.tup upd_same (r.le l3 hW))⟩
theorem o_none : EvO R tNoPart σ H none := fun H1 e _ q => q H1 (Le.refl e.ok)
theorem o_some {i : Int} (h : Ev R te σ H No (.int i)) : EvO R (tPart te) σ H (some i) := fun H1 e _ q => h H1 e _ fun v H2 e2 r => by
  cases r
  exact ⟨i, rfl, q H2 e2⟩
/-- a slice of data -/
def cutD (xs : List PyData) (lo hi : Option Int) : List PyData := (xs.drop (HT.sIx xs.length 0 lo)).take (HT.sIx xs.length xs.length hi - HT.sIx xs.length 0 lo)
theorem cutD_len (xs : List PyData) (lo hi : Option Int) : (cutD xs lo hi).length ≤ xs.length := by
  unfold cutD
  rw [List.length_take, List.length_drop]
  omega
theorem DtA.cut {ds : List PyData} {vs : List V} (h : DtA N H ds vs) (lo hi : Option Int) : DtA N H (cutD ds lo hi) (cutV vs lo hi) := by
  unfold cutD cutV
  rw [h.length]
  exact (h.drop _).take _
theorem e_sll {tl th : TO} {ds : List PyData} {lo hi : Option Int} (h : Ev R te σ H N (.list ds)) (h1 : EvO R tl σ H lo) (h2 : EvO R th σ H hi) (nk : Nk R N H) : Ev R (tSl (rSlU K) te tl th) σ H N (.list (cutD ds lo hi)) := fun H1 e Q q =>
  h H1 e _ fun v H2 e2 r => h1 H2 (e.trans e2) _ fun H3 e3 => h2 H3 ((e.trans e2).trans e3) _ fun H4 e4 => by
    obtain ⟨a1, x1, rfl, n1, hl, ra⟩ := (r.le (e3.trans e4) nk.sub).listy
    refine .inl ⟨_, _, rfl, SqL.of hl, fun p hp => ?_⟩
    have e5 := (e2.trans e3).trans e4
    obtain ⟨l3, d3⟩ := new_l nk (e.trans e5) hp (ra.cut lo hi)
    exact q _ _ (e5.trans l3) d3
theorem e_sls {tl th : TO} {s : Str} {lo hi : Option Int} (h : Ev R te σ H N (.str s)) (h1 : EvO R tl σ H lo) (h2 : EvO R th σ H hi) (hz : s.length ≤ 100000) : Ev R (tSl (rSlU K) te tl th) σ H N (.str (cutS s lo hi)) := fun H1 e Q q =>
  h H1 e _ fun v H2 e2 r => h1 H2 (e.trans e2) _ fun H3 e3 => h2 H3 ((e.trans e2).trans e3) _ fun H4 e4 => by
    cases r
    exact .inr (.inr ⟨_, rfl, Evl.sz_of hz, q _ _ ((e2.trans e3).trans e4) (.str _)⟩)
theorem e_lenl {ds : List PyData} (h : Ev R te σ H N (.list ds)) : Ev R (tCB (rLenU K) (tCons te tNil)) σ H N' (.int (ds.length : Int)) := fun H1 e Q q =>
  h H1 e _ fun v H2 e2 r => by
    cases r with
    | lst n hl ra => exact .inl ⟨_, _, rfl, .inl (SqL.of hl), by rw [ra.length]; exact q _ H2 e2 (.int _)⟩
theorem e_lent {ds : List PyData} (h : Ev R te σ H N (.tuple ds)) : Ev R (tCB (rLenU K) (tCons te tNil)) σ H N' (.int (ds.length : Int)) := fun H1 e Q q =>
  h H1 e _ fun v H2 e2 r => by
    cases r with
    | tup hl ra => exact .inl ⟨_, _, rfl, .inr (SqT.of hl), by rw [ra.length]; exact q _ H2 e2 (.int _)⟩
theorem e_lens {s : Str} (h : Ev R te σ H N (.str s)) (hz : s.length ≤ 100000) : Ev R (tCB (rLenU K) (tCons te tNil)) σ H N' (.int (s.length : Int)) := fun H1 e Q q =>
  h H1 e _ fun v H2 e2 r => by
    cases r
    exact .inr ⟨_, rfl, Evl.sz_of hz, q _ H2 e2 (.int _)⟩
theorem e_intb {b : Bool} (h : Ev R te σ H N (.bool b)) : Ev R (tCB rIntU (tCons te tNil)) σ H N (.int (if b then 1 else 0)) := fun H1 e Q q =>
  h H1 e _ fun v H2 e2 r => by
    cases r
    exact .inl (.inr ⟨_, rfl, q _ H2 e2 (.int _)⟩)
theorem e_list {ds : List PyData} (h : Ev R te σ H N (.list ds)) (nk : Nk R N H) : Ev R (tCB (rListU K) (tCons te tNil)) σ H N (.list ds) := fun H1 e Q q =>
  h H1 e _ fun v H2 e2 r => by
    obtain ⟨a1, x1, rfl, n1, hl, ra⟩ := r.listy
    refine ⟨_, _, rfl, .inl (SqL.of hl), fun p hp => ?_⟩
    obtain ⟨l3, d3⟩ := new_l nk (e.trans e2) hp ra
    exact q _ _ (e2.trans l3) d3
theorem e_tuple {ds : List PyData} (h : Ev R te σ H N (.list ds)) (hW : ∀ a, R.W a → N a) : Ev R (tCB (rTupU K) (tCons te tNil)) σ H N (.tuple ds) := fun H1 e Q q =>
  h H1 e _ fun v H2 e2 r => by
    obtain ⟨a1, x1, rfl, n1, hl, ra⟩ := r.listy
    refine ⟨_, _, rfl, .inl ⟨SqL.of hl, fun p hp => ?_⟩⟩
    obtain ⟨l3, d3⟩ := new_t hW e2.ok hp ra
    exact q _ _ (e2.trans l3) d3
theorem t_cmp {b : Bool} (h : Ev R te σ H N (.bool b)) : EvT R (tTest te) σ H b := fun H1 e _ q => h H1 e _ fun v H2 e2 r => by
  cases r
  exact ⟨b, rfl, q H2 e2⟩
theorem t_val {b : Bool} (h : Ev R te σ H N (.bool b)) : EvT R (tB te) σ H b := fun H1 e _ q => h H1 e _ fun v H2 e2 r => by
  cases r
  exact ⟨b, rfl, q H2 e2⟩
def tTru (K : PySem.W.Frag) (ta : TE) : TT := fun σ H Q => ta σ H fun x H' => ∃ k, TruV K x H' k ∧ Q k H'
theorem t_trub {b : Bool} (h : Ev R te σ H N (.bool b)) : EvT R (tTru K te) σ H b := fun H1 e _ q => h H1 e _ fun v H2 e2 r => by
  cases r
  exact ⟨b, rfl, q H2 e2⟩
theorem t_trul {ds : List PyData} (h : Ev R te σ H N (.list ds)) : EvT R (tTru K te) σ H (!ds.isEmpty) := fun H1 e _ q => h H1 e _ fun v H2 e2 r => by
  obtain ⟨a1, x1, rfl, n1, hl, ra⟩ := r.listy
  refine ⟨_, .inl ⟨x1, SqL.of hl, rfl⟩, ?_⟩
  have z : (!x1.isEmpty) = (!ds.isEmpty) := by cases ra <;> rfl
  rw [z]
  exact q H2 e2
theorem t_and {a b : Bool} (h1 : EvT R t σ H a) (h2 : a = true → EvT R u σ H b) : EvT R (tAnd t u) σ H (a && b) := fun H1 e Q q => h1 H1 e _ fun H2 e2 => by
  cases a with
  | true =>
    show u σ H2 Q
    exact h2 rfl H2 (e.trans e2) Q fun H3 e3 => q H3 (e2.trans e3)
  | false => exact q H2 e2
theorem t_or {a b : Bool} (h1 : EvT R t σ H a) (h2 : a = false → EvT R u σ H b) : EvT R (tOr t u) σ H (a || b) := fun H1 e Q q => h1 H1 e _ fun H2 e2 => by
  cases a with
  | true => exact q H2 e2
  | false =>
    show u σ H2 Q
    exact h2 rfl H2 (e.trans e2) Q fun H3 e3 => q H3 (e2.trans e3)
theorem t_not {a : Bool} (h1 : EvT R t σ H a) : EvT R (tNot t) σ H (!a) := fun H1 e _ q => h1 H1 e _ fun H2 e2 => q H2 e2
theorem t_yes : EvT R tYes σ H true := fun H1 e _ q => q H1 (Le.refl e.ok)
theorem e_andV {a b : Bool} (h1 : Ev R ta σ H N (.bool a)) (h2 : a = true → Ev R tb σ H N (.bool b)) : Ev R (tAndV ta tb) σ H N (.bool (a && b)) := fun H1 e Q q => h1 H1 e _ fun v H2 e2 r => by
  cases r
  refine ⟨a, rfl, ?_⟩
  cases a with
  | true =>
    show tb σ H2 Q
    exact h2 rfl H2 (e.trans e2) Q fun v H3 e3 r => by
      cases r
      exact q _ H3 (e2.trans e3) (.bl _)
  | false => exact q _ H2 e2 (.bl _)
theorem e_orV {a b : Bool} (h1 : Ev R ta σ H N (.bool a)) (h2 : a = false → Ev R tb σ H N (.bool b)) : Ev R (tOrV ta tb) σ H N (.bool (a || b)) := fun H1 e Q q => h1 H1 e _ fun v H2 e2 r => by
  cases r
  refine ⟨a, rfl, ?_⟩
  cases a with
  | true => exact q _ H2 e2 (.bl _)
  | false =>
    show tb σ H2 Q
    exact h2 rfl H2 (e.trans e2) Q fun v H3 e3 r => by
      cases r
      exact q _ H3 (e2.trans e3) (.bl _)
theorem e_notV {a : Bool} (h1 : Ev R ta σ H N (.bool a)) : Ev R (tNotV ta) σ H N (.bool (!a)) := fun H1 e _ q => h1 H1 e _ fun v H2 e2 r => by
  cases r
  exact ⟨a, rfl, q _ H2 e2 (.bl _)⟩
theorem e_if {b : Bool} (h : EvT R t σ H b) (h1 : b = true → Ev R ta σ H N d) (h2 : b = false → Ev R tb σ H N d) : Ev R (tIf t ta tb) σ H N d := fun H1 e Q q => h H1 e _ fun H2 e2 => by
  cases b with
  | true =>
    show ta σ H2 Q
    exact h1 rfl H2 (e.trans e2) Q fun v H3 e3 => q v H3 (e2.trans e3)
  | false =>
    show tb σ H2 Q
    exact h2 rfl H2 (e.trans e2) Q fun v H3 e3 => q v H3 (e2.trans e3)
end
end FF
set_option Elab.async false
set_option linter.all false
set_option maxRecDepth 100000
set_option maxHeartbeats 2000000
namespace FF
open PySem PySem.Spec PyProof.Rows L2
/-- the built-ins' names are the built-ins' -/
structure Bi (mg : Str → Option Value) : Prop where
  len : mg "len" = none
  range : mg "range" = none
  list : mg "list" = none
  tuple : mg "tuple" = none
  int : mg "int" = none
  str : mg "str" = none
  bool : mg "bool" = none
  sorted : mg "sorted" = none
  set : mg "set" = none
  isinstance : mg "isinstance" = none
  min : mg "min" = none
  max : mg "max" = none
  sum : mg "sum" = none
  any : mg "any" = none
  all : mg "all" = none
  enumerate : mg "enumerate" = none
  zip : mg "zip" = none
  reversed : mg "reversed" = none
  dict : mg "dict" = none
/-- a whole number, a text of the module's own top -/
theorem pe_gint {X : Cx} {x : Str} {i : Int} {pos : Pos} (hg : Gl X x) (hm : ∃ t, X.mg x = some (Value.int i t)) (hd : (x == ("__debug__" : Str)) = false := by decide) : PE X (.Name x pos) (tC (.int i)) :=
  let ⟨t, h⟩ := hm
  pe_glob hg h ⟨t, rfl⟩ hd
theorem pe_gstr {X : Cx} {x i : Str} {pos : Pos} (hg : Gl X x) (hm : ∃ t, X.mg x = some (Value.str i t)) (hd : (x == ("__debug__" : Str)) = false := by decide) : PE X (.Name x pos) (tC (.str i)) :=
  let ⟨t, h⟩ := hm
  pe_glob hg h ⟨t, rfl⟩ hd
end FF
set_option Elab.async false
set_option linter.all false
set_option maxRecDepth 100000
set_option maxHeartbeats 2000000
/-! the row of draws: one list that may change; a draw is any number in its range -/
namespace FF
open PySem PySem.Spec PyProof.Rows L2
open Evl (Ex fresh_back)

def RowI (K : PySem.W.Frag) (ar as : Addr) (sc : List Int) (H : Hp) : Prop :=
  (∃ p m r : Int, 0 ≤ p ∧ H ar = some (.lst [.ref as, .int p, .int m, .int r])) ∧ ((∃ o, H as = some (.frz o (.lst (sc.map V.int)))) ∨ SqL K (fun _ => none) as (sc.map V.int))
theorem sql_any {K : PySem.W.Frag} {H : Hp} {a : Addr} {xs : List V} (h : SqL K (fun _ => none) a xs) : SqL K H a xs := by
  rcases h with (h | ⟨o, h⟩) | h
  · cases h
  · cases h
  · exact .inr h
theorem RowI.sc {K : PySem.W.Frag} {ar as : Addr} {sc : List Int} {H : Hp} (h : RowI K ar as sc H) : SqL K H as (sc.map V.int) := by
  rcases h.2 with ⟨o, q⟩ | q
  · exact .inl (.inr ⟨o, q⟩)
  · exact sql_any q
def Rr (K : PySem.W.Frag) (ar as : Addr) (sc : List Int) : Rg where
  W := fun a => a = ar
  I := RowI K ar as sc
  st := fun H H' e ⟨⟨p, m, r, hp, h⟩, h2⟩ => ⟨⟨p, m, r, hp, e _ _ h⟩, h2.imp (fun ⟨o, q⟩ => ⟨o, e _ _ q⟩) id⟩
  wt := fun H a ⟨⟨p, m, r, hp, h⟩, _⟩ w => by
    have e : a = ar := w
    subst e
    exact ⟨_, h, fun ys z => by cases z⟩
  mv := fun H p xs ys ⟨⟨q, m, r, hp, h⟩, h2⟩ nw hl => ⟨⟨q, m, r, hp, by rw [upd_ne (fun z => nw z.symm)]; exact h⟩, h2.imp (fun ⟨o, e⟩ => ⟨o, by rw [upd_ne (ne_of e hl (by intro z; cases z))]; exact e⟩) id⟩
section
variable {K : PySem.W.Frag} {ar as : Addr} {sc : List Int} {H H1 : Hp}
theorem Rr.put {p m r p' m' r' : Int} (ok : RowI K ar as sc H) (h : H ar = some (.lst [.ref as, .int p, .int m, .int r])) (hp : 0 ≤ p') : Le (Rr K ar as sc) H (upd H ar (.lst [.ref as, .int p', .int m', .int r'])) where
  ext := fun a o w q => by rw [upd_ne w]; exact q
  back := fun a q => by
    by_cases z : a = ar
    · rw [z, upd_same] at q; cases q
    · rw [upd_ne z] at q; exact q
  ok0 := ok
  ok := ⟨⟨p', m', r', hp, upd_same⟩, ok.2.imp (fun ⟨o, e⟩ => ⟨o, by rw [upd_ne (ne_of e h (by intro z; cases z))]; exact e⟩) id⟩

/-- a draw: any number of the range, the row changed -/
def sp__law_taken (K : PySem.W.Frag) : Sp := fun vs H Q _ => ∃ (ar as : Addr) (sc : List Int) (many : Int), vs = [.ref ar, .int many] ∧ RowI K ar as sc H ∧ 0 < many ∧ many < 1000000000 ∧
  ∀ (i : Int) (H' : Hp), 0 ≤ i → i < many → Le (Rr K ar as sc) H H' → Q (.int i) H'

/-! ### readings that leave the heap -/
variable {σ : L2.St} {ta tb te : TE} {x y z v : V} {xs : List V} {a : Addr}
theorem val_ix {i : Nat} {k : Int} (hσ : σ[i]? = some (some (.ref a))) (h : H a = some (.lst xs)) (hk : atI xs k = some v) : Val (tOp (rIx K) (tVar i) (tC (.int k))) σ H v := fun Q q =>
  ⟨_, hσ, .inl ⟨a, xs, k, v, rfl, rfl, SqL.of h, hk, q⟩⟩
theorem val_I0 {g : Int → Int → V} {i j : Int} (ha : Val ta σ H (.int i)) (hb : Val tb σ H (.int j)) : Val (tOp (rI0 g) ta tb) σ H (g i j) := fun Q q => ha _ (hb _ ⟨i, j, rfl, rfl, q⟩)
theorem val_I {C : Int → Int → Prop} {g : Int → Int → V} {i j : Int} (ha : Val ta σ H (.int i)) (hb : Val tb σ H (.int j)) (hc : C i j) : Val (tOp (rI C g) ta tb) σ H (g i j) := fun Q q => ha _ (hb _ ⟨i, j, rfl, rfl, hc, q⟩)
theorem val_fmod {i j : Int} (ha : Val ta σ H (.int i)) (hb : Val tb σ H (.int j)) (hc : j ≠ 0) : Val (tOp (rI (fun _ j => j ≠ 0) fun i j => .int (i.fmod j)) ta tb) σ H (.int (i.fmod j)) := val_I ha hb hc
theorem val_fdiv {i j : Int} (ha : Val ta σ H (.int i)) (hb : Val tb σ H (.int j)) (hc : j ≠ 0 ∧ j.natAbs < 1073741824) : Val (tOp (rI CDivN fun i j => .int (i.fdiv j)) ta tb) σ H (.int (i.fdiv j)) := val_I ha hb hc
theorem val_add {i j : Int} (ha : Val ta σ H (.int i)) (hb : Val tb σ H (.int j)) : Val (tOp (rAddU K) ta tb) σ H (.int (i + j)) := fun Q q => ha _ (hb _ (.inl ⟨i, j, rfl, rfl, q⟩))
theorem val_mul {i j : Int} (ha : Val ta σ H (.int i)) (hb : Val tb σ H (.int j)) (hc : CMul i j) : Val (tOp rMulU ta tb) σ H (.int (i * j)) := fun Q q => ha _ (hb _ (.inl ⟨i, j, rfl, rfl, hc, q⟩))
theorem st_sub {D : Ends} {i : Nat} {k : Int} {j : Nat} (hv : Val te σ H v) (hσ : σ[i]? = some (some (.ref a))) (h : H a = some (.lst xs)) (hj : ixN xs.length k = some j) (q : D.nx σ (upd H a (.lst (xs.set j v)))) :
    tAsg te (gSub (tVar i) (tC (.int k)) rSetL) D σ H := hv _ ⟨_, hσ, a, xs, k, j, rfl, rfl, h, hj, q⟩
theorem st_subE {D : Ends} {i : Nat} {k : Int} {j : Nat} (ys : List V) (hv : Val te σ H v) (hσ : σ[i]? = some (some (.ref a))) (h : H a = some (.lst xs)) (hj : ixN xs.length k = some j) (e : xs.set j v = ys) (q : D.nx σ (upd H a (.lst ys))) :
    tAsg te (gSub (tVar i) (tC (.int k)) rSetL) D σ H := hv _ ⟨_, hσ, a, xs, k, j, rfl, rfl, h, hj, by rw [e]; exact q⟩
theorem val_if {t : TT} {b : Bool} (h : Ans t σ H b) (h1 : b = true → Val ta σ H v) (h2 : b = false → Val tb σ H v) : Val (tIf t ta tb) σ H v := fun Q q => h _ (by
  cases b with
  | true => exact h1 rfl Q q
  | false => exact h2 rfl Q q)
theorem ans_I0 {g : Int → Int → Bool} {i j : Int} (ha : Val ta σ H (.int i)) (hb : Val tb σ H (.int j)) : Ans (tTest (tOp (rI0 fun i j => .bl (g i j)) ta tb)) σ H (g i j) := fun Q q => ha _ (hb _ ⟨i, j, rfl, rfl, _, rfl, q⟩)
end
end FF
set_option Elab.async false
set_option linter.all false
set_option maxRecDepth 100000
set_option maxHeartbeats 2000000
namespace FF
open PySem PySem.Spec PyProof.Rows L2
open Evl (Ex fresh_back)
/-- slots ['_law_row', '_law_many', '_law_found', '_law_cell'] -/
abbrev r__law_taken (K : PySem.W.Frag) : TS :=
    (tSeq (tIfS (tTest (tOp (rI0 fun i j => .bl (decide (j < i))) (tOp (rIx K) (tVar 0) (tC (.int 3))) (tC (.int 0)))) (tSeq (tAsg (tOp (rI (fun _ j => j ≠ 0) fun i j => .int (i.fmod j)) (tOp (rIx K) (tVar 0) (tC (.int 3))) (tVar 1)) (gName 2))
    (tSeq (tAsg (tOp (rI CDivN fun i j => .int (i.fdiv j)) (tOp (rIx K) (tVar 0) (tC (.int 3))) (tVar 1)) (gSub (tVar 0) (tC (.int 3)) rSetL))
    (tRet (tVar 2)))) tNext)
    (tSeq (tAsg (tOp (rAddU K) (tOp (rIx K) (tVar 0) (tC (.int 1))) (tC (.int 1))) (gSub (tVar 0) (tC (.int 1)) rSetL))
    (tSeq (tIfS (tTest (tOp (rI0 fun i j => .bl (decide (j < i))) (tOp (rIx K) (tVar 0) (tC (.int 1))) (tCB (rLenU K) (tCons (tOp (rIx K) (tVar 0) (tC (.int 0))) tNil)))) (tSeq (tAsg (tOp (rI (fun _ j => j ≠ 0) fun i j => .int (i.fmod j)) (tOp (rAddU K) (tOp rMulU (tOp (rIx K) (tVar 0) (tC (.int 2))) (tC (.int 48271))) (tC (.int 11))) (tC (.int 2147483647))) (gSub (tVar 0) (tC (.int 2)) rSetL))
    (tRet (tOp (rI (fun _ j => j ≠ 0) fun i j => .int (i.fmod j)) (tOp (rI CDivN fun i j => .int (i.fdiv j)) (tOp (rIx K) (tVar 0) (tC (.int 2))) (tC (.int 7))) (tVar 1)))) tNext)
    (tSeq (tAsg (tOp (rIx K) (tOp (rIx K) (tVar 0) (tC (.int 0))) (tOp (rI0 fun i j => .int (i - j)) (tOp (rIx K) (tVar 0) (tC (.int 1))) (tC (.int 1)))) (gName 3))
    (tSeq (tAsg (tOp (rI (fun _ j => j ≠ 0) fun i j => .int (i.fmod j)) (tOp (rAddU K) (tOp (rAddU K) (tOp rMulU (tOp (rIx K) (tVar 0) (tC (.int 2))) (tC (.int 48271))) (tVar 3)) (tC (.int 11))) (tC (.int 2147483647))) (gSub (tVar 0) (tC (.int 2)) rSetL))
    (tSeq (tAsg (tIf (tTest (tOp (rI0 fun i j => .bl (decide (j ≤ i))) (tVar 3) (tOp (rI CPow fun i j => .int (i ^ j.toNat)) (tC (.int 10)) (tC (.int 18))))) (tOp (rI CDivN fun i j => .int (i.fdiv j)) (tVar 3) (tVar 1)) (tC (.int 0))) (gSub (tVar 0) (tC (.int 3)) rSetL))
    (tRet (tOp (rI (fun _ j => j ≠ 0) fun i j => .int (i.fmod j)) (tVar 3) (tVar 1)))))))))
theorem rd__law_taken {K : PySem.W.Frag} (vs : List V) (H : Hp) (Q : VK) (E : XK) (h : sp__law_taken K vs H Q E) : r__law_taken K { nx := fun _ H' => Q .non H', rt := Q } (start ["_law_row", "_law_many", "_law_found", "_law_cell"] vs) H := by
  obtain ⟨ar, as, sc, many, rfl, ok, m0, mb, k⟩ := h
  obtain ⟨⟨p, m, r, hp, hr⟩, hs⟩ := id ok
  have hsc := RowI.sc ok
  have hdN : CDivN r many := ⟨by omega, by omega⟩
  show tSeq _ _ _ [some (.ref ar), some (.int many), none, none] H
  refine st_seq ?_
  by_cases c : 0 < r
  · refine st_yes ((ans_I0 (val_ix rfl hr rfl) val_c).to (decide_eq_true c)) ?_
    refine st_seq (st_set (val_I (val_ix rfl hr rfl) (val_var rfl) (by omega)) ?_)
    refine st_seq (st_sub (val_I (val_ix rfl hr rfl) (val_var rfl) hdN) rfl hr rfl ?_)
    refine st_ret (val_var rfl) ?_
    exact k _ _ (Int.fmod_nonneg_of_pos _ m0) (Int.fmod_lt_of_pos _ m0) (Rr.put ok hr hp)
  · refine st_no ((ans_I0 (val_ix rfl hr rfl) val_c).to (decide_eq_false c)) ?_
    refine st_next ?_
    refine st_seq (st_subE [.ref as, .int (p + 1), .int m, .int r] (val_add (val_ix rfl hr rfl) val_c) rfl hr rfl rfl ?_)
    have l1 : Le (Rr K ar as sc) H _ := Rr.put (p' := p + 1) (m' := m) (r' := r) ok hr (by omega)
    have h1 : upd H ar (.lst [.ref as, .int (p + 1), .int m, .int r]) ar = some (.lst [.ref as, .int (p + 1), .int m, .int r]) := upd_same
    revert l1 h1
    generalize upd H ar (.lst [.ref as, .int (p + 1), .int m, .int r]) = H1
    intro l1 h1
    have s1 := RowI.sc l1.ok
    have hlen : Val (tCB (rLenU K) (tCons (tOp (rIx K) (tVar 0) (tC (.int 0))) tNil)) [some (.ref ar), some (.int many), none, none] H1 (.int (sc.length : Int)) := by
      intro Q q
      refine val_ix rfl h1 rfl _ ?_
      exact .inl ⟨as, _, rfl, .inl s1, by rw [List.length_map]; exact q⟩
    refine st_seq ?_
    by_cases c2 : (sc.length : Int) < p + 1
    · refine st_yes ((ans_I0 (val_ix rfl h1 rfl) hlen).to (decide_eq_true c2)) ?_
      refine st_seq (st_subE _ (val_I (val_add (val_mul (val_ix rfl h1 rfl) val_c (.inr (by decide))) val_c) val_c (by decide)) rfl h1 rfl rfl ?_)
      have l2 := Rr.put (m' := (m * 48271 + 11).fmod 2147483647) (r' := r) l1.ok h1 (by omega : 0 ≤ p + 1)
      refine st_ret (val_fmod (val_fdiv (val_ix rfl upd_same rfl) val_c ⟨by decide, by decide⟩) (val_var rfl) (by omega)) ?_
      exact k _ _ (Int.fmod_nonneg_of_pos _ m0) (Int.fmod_lt_of_pos _ m0) (l1.trans l2)
    · refine st_no ((ans_I0 (val_ix rfl h1 rfl) hlen).to (decide_eq_false c2)) ?_
      refine st_next ?_
      have hi : p.toNat < sc.length := by omega
      obtain ⟨z, hz⟩ : ∃ z, sc[p.toNat]? = some z := ⟨_, List.getElem?_eq_getElem hi⟩
      have hat : atI (sc.map V.int) (p + 1 - 1) = some (.int z) := by
        rw [show p + 1 - 1 = ((p.toNat : Nat) : Int) by omega]
        exact atI_nat (by rw [List.getElem?_map, hz]; rfl)
      have hcell : Val (tOp (rIx K) (tOp (rIx K) (tVar 0) (tC (.int 0))) (tOp (rI0 fun i j => .int (i - j)) (tOp (rIx K) (tVar 0) (tC (.int 1))) (tC (.int 1)))) [some (.ref ar), some (.int many), none, none] H1 (.int z) := by
        intro Q q
        refine val_ix rfl h1 rfl _ ?_
        refine val_I0 (val_ix rfl h1 rfl) val_c _ ?_
        exact .inl ⟨as, _, _, _, rfl, rfl, s1, hat, q⟩
      refine st_seq (st_set hcell ?_)
      refine st_seq (st_subE _ (val_I (val_add (val_add (val_mul (val_ix rfl h1 rfl) val_c (.inr (by decide))) (val_var rfl)) val_c) val_c (by decide)) rfl h1 rfl rfl ?_)
      have l2 := Rr.put (m' := (m * 48271 + z + 11).fmod 2147483647) (r' := r) l1.ok h1 (by omega : 0 ≤ p + 1)
      have hpow : Val (tOp (rI CPow fun i j => .int (i ^ j.toNat)) (tC (.int 10)) (tC (.int 18))) [some (.ref ar), some (.int many), none, some (.int z)] (upd H1 ar (.lst [.ref as, .int (p + 1), .int ((m * 48271 + z + 11).fmod 2147483647), .int r])) (.int (10 ^ (18 : Int).toNat)) :=
        val_I val_c val_c ⟨by decide, by decide, by decide⟩
      have hte : Val (tIf (tTest (tOp (rI0 fun i j => .bl (decide (j ≤ i))) (tVar 3) (tOp (rI CPow fun i j => .int (i ^ j.toNat)) (tC (.int 10)) (tC (.int 18))))) (tOp (rI CDivN fun i j => .int (i.fdiv j)) (tVar 3) (tVar 1)) (tC (.int 0)))
          [some (.ref ar), some (.int many), none, some (.int z)] (upd H1 ar (.lst [.ref as, .int (p + 1), .int ((m * 48271 + z + 11).fmod 2147483647), .int r])) (.int (if decide ((10 : Int) ^ (18 : Int).toNat ≤ z) = true then z.fdiv many else 0)) := by
        refine val_if (ans_I0 (val_var rfl) hpow) (fun e => ?_) (fun e => ?_)
        · rw [if_pos e]
          exact val_I (val_var rfl) (val_var rfl) ⟨by omega, by omega⟩
        · rw [if_neg (by rw [e]; decide)]
          exact val_c
      refine st_seq (st_subE _ hte rfl upd_same rfl rfl ?_)
      refine st_ret (val_I (val_var rfl) (val_var rfl) (by omega)) ?_
      refine k _ _ (Int.fmod_nonneg_of_pos _ m0) (Int.fmod_lt_of_pos _ m0) ((l1.trans l2).trans ?_)
      exact Rr.put l2.ok upd_same (by omega)
end FF
set_option Elab.async false
set_option linter.all false
set_option maxRecDepth 100000
set_option maxHeartbeats 2000000
/-! comprehensions and loops over data; what may come out is said by a predicate -/
namespace FF
open PySem PySem.Spec PyProof.Rows L2
open Evl (Ex fresh_back)

/-- some datum of which φ holds -/
def EvP (R : Rg) (te : TE) (σ : L2.St) (H : Hp) (N : Addr → Prop) (φ : PyData → Prop) : Prop := ∀ H1, Le R H H1 → ∀ Q : VK, (∀ d v H2, Le R H1 H2 → φ d → Dt N H2 d v → Q v H2) → te σ H1 Q
def EvTP (R : Rg) (tt : TT) (σ : L2.St) (H : Hp) (φ : Bool → Prop) : Prop := ∀ H1, Le R H H1 → ∀ Q : Bool → Hp → Prop, (∀ b H2, Le R H1 H2 → φ b → Q b H2) → tt σ H1 Q
/-- a turn: the test, then the element; T none where it is left out -/
def EvF (R : Rg) (t : TT) (te : TE) (σ : L2.St) (H : Hp) (N : Addr → Prop) (T : Option PyData → Prop) : Prop := ∀ H1, Le R H H1 → ∀ (Qn : Hp → Prop) (Q : VK), (∀ H2, Le R H1 H2 → T none → Qn H2) →
  (∀ d v H2, Le R H1 H2 → T (some d) → Dt N H2 d v → Q v H2) → t σ H1 fun b H2 => if b = true then te σ H2 Q else Qn H2
section
variable {R : Rg} {K : PySem.W.Frag} {σ : L2.St} {H H' : Hp} {N N' : Addr → Prop} {ta tb te tx : TE} {t u : TT} {x y z d : PyData} {r : R2} {φ ψ : PyData → Prop}
theorem Ev.p (h : Ev R te σ H N d) : EvP R te σ H N (fun e => e = d) := fun H1 e Q q => h H1 e Q fun v H2 e2 r => q d v H2 e2 rfl r
theorem EvP.ev (h : EvP R te σ H N (fun e => e = d)) : Ev R te σ H N d := fun H1 e Q q => h H1 e Q fun x v H2 e2 p r => q v H2 e2 (p ▸ r)
theorem EvP.imp (h : EvP R te σ H N φ) (f : ∀ d, φ d → ψ d) : EvP R te σ H N ψ := fun H1 e Q q => h H1 e Q fun d v H2 e2 p r => q d v H2 e2 (f d p) r
theorem EvP.go (h : EvP R te σ H N φ) (ok : R.I H) {Q : VK} (q : ∀ d v H2, Le R H H2 → φ d → Dt N H2 d v → Q v H2) : te σ H Q := h H (Le.refl ok) Q q
theorem EvP.le (h : EvP R te σ H N φ) (e : Le R H H') : EvP R te σ H' N φ := fun H1 a Q q => h H1 (e.trans a) Q q
theorem f_det {b : Bool} (h : EvT R t σ H b) (he : b = true → Ev R te σ H N d) : EvF R t te σ H N (fun o => o = if b = true then some d else none) := fun H1 e Qn Q qn q => h H1 e _ fun H2 e2 => by
  cases b with
  | true =>
    show te σ H2 Q
    exact he rfl H2 (e.trans e2) Q fun v H3 e3 r => q d v H3 (e2.trans e3) rfl r
  | false =>
    show Qn H2
    exact qn H2 e2 rfl
theorem f_all (he : EvP R te σ H N φ) : EvF R tYes te σ H N (fun o => ∃ d, o = some d ∧ φ d) := fun H1 e Qn Q qn q => by
  show te σ H1 Q
  exact he H1 e Q fun d v H2 e2 p r => q d v H2 e2 ⟨d, rfl, p⟩ r
theorem f_some (he : Ev R te σ H N d) : EvF R tYes te σ H N (fun o => o = some d) := fun H1 e Qn Q qn q => by
  show te σ H1 Q
  exact he H1 e Q fun v H2 e2 r => q d v H2 e2 rfl r
theorem f_maybe {φ : Bool → Prop} (h : EvTP R t σ H φ) (he : Ev R te σ H N d) : EvF R t te σ H N (fun o => o = some d ∨ o = none) := fun H1 e Qn Q qn q => h H1 e _ fun b H2 e2 _ => by
  cases b with
  | true =>
    show te σ H2 Q
    exact he H2 (e.trans e2) Q fun v H3 e3 r => q d v H3 (e2.trans e3) (.inl rfl) r
  | false =>
    show Qn H2
    exact qn H2 e2 (.inr rfl)

theorem p_tup2 (ha : EvP R ta σ H N φ) (hb : EvP R tb σ H N ψ) (hW : ∀ a, R.W a → N a) : EvP R (tTup (tCons ta (tCons tb tNil))) σ H N (fun d => ∃ x y, d = .tuple [x, y] ∧ φ x ∧ ψ y) := fun H1 e Q q =>
  ha H1 e _ fun d1 v1 H2 e2 p1 r1 => hb H2 (e.trans e2) _ fun d2 v2 H3 e3 p2 r2 => ⟨by show 2 ≤ sizeLine; decide, fun p hp => by
    obtain ⟨l4, d4⟩ := new_t hW e3.ok hp (.cons (r1.le e3 hW) (.cons r2 .nil))
    exact q _ _ _ ((e2.trans e3).trans l4) ⟨d1, d2, rfl, p1, p2⟩ d4⟩
/-- what stands at D behind i turns -/
def Lw (R : Rg) (H : Hp) (N : Addr → Prop) (T : Nat → Option PyData → Prop) (D : Addr) (i : Nat) (H' : Hp) : Prop :=
  Le R H H' ∧ ∃ (os : List (Option PyData)) (vs : List V), os.length = i ∧ (∀ k o, os[k]? = some o → T k o) ∧ H' D = some (.lst vs) ∧ DtA (fun a => a = D ∨ N a) H' (os.filterMap id) vs
theorem lw_start {T : Nat → Option PyData → Prop} {D : Addr} (ok : R.I H) (hD : H D = none) : Lw R H N T D 0 (upd H D (.lst [])) :=
  ⟨Le.new hD ok, [], [], rfl, fun k o h => by simp at h, upd_same, .nil⟩
theorem nk_more (nk : Nk R N H) (e : Le R H H') {D : Addr} {o : HO} (h : H' D = some o) : Nk R (fun a => a = D ∨ N a) H' := (nk.le e).more (by rw [h]; intro z; cases z)
theorem fm_snoc (os : List (Option PyData)) (d : PyData) : (os ++ [some d]).filterMap id = os.filterMap id ++ [d] := by
  rw [List.filterMap_append]; rfl
theorem fm_none (os : List (Option PyData)) : (os ++ [none]).filterMap id = os.filterMap id := by
  rw [List.filterMap_append]; simp
theorem snoc_all {T : Nat → Option PyData → Prop} {os : List (Option PyData)} {o : Option PyData} (h : ∀ k o, os[k]? = some o → T k o) (ho : T os.length o) : ∀ k p, (os ++ [o])[k]? = some p → T k p := by
  intro k p hk
  rcases Nat.lt_trichotomy k os.length with q | q | q
  · rw [List.getElem?_append_left q] at hk
    exact h k p hk
  · subst q
    rw [List.getElem?_append_right (Nat.le_refl _)] at hk
    simp at hk
    subst hk
    exact ho
  · rw [List.getElem?_eq_none (by simp; omega)] at hk
    cases hk
theorem lw_turn {T : Nat → Option PyData → Prop} {D : Addr} {i : Nat} {σ2 : L2.St} (nk : Nk R N H) (hD : H D = none) (p : Lw R H N T D i H') (hi : i < 50000)
    (ht : EvF R t te σ2 H' (fun a => a = D ∨ N a) (T i)) :
    t σ2 H' fun b H3 => if b = true then te σ2 H3 fun y H4 => ∃ acc, H4 D = some (.lst acc) ∧ acc.length < sizeLine ∧ Lw R H N T D (i + 1) (upd H4 D (.lst (acc ++ [y]))) else Lw R H N T D (i + 1) H3 := by
  obtain ⟨e1, os, vs, hl, hT, h1, r1⟩ := p
  have hDW : ¬ R.W D := fun w => by obtain ⟨xs, q, _⟩ := R.wt H D e1.ok0 w; rw [hD] at q; cases q
  have sub : ∀ a, R.W a → (a = D ∨ N a) := fun a w => .inr (nk.sub a w)
  have hlen : vs.length < sizeLine := by
    rw [r1.length]
    have h2 := List.length_filterMap_le id os
    exact Evl.sz_lt (by omega)
  refine ht H' (Le.refl e1.ok) _ _ (fun H2 e2 hn => ?_) (fun d v H2 e2 hs r => ?_)
  · refine ⟨e1.trans e2, os ++ [none], vs, by simp [hl], snoc_all hT (by rw [hl]; exact hn), e2.ext D _ hDW h1, ?_⟩
    rw [fm_none]
    exact r1.le e2 sub
  · have h2 := e2.ext D _ hDW h1
    refine ⟨vs, h2, hlen, (e1.trans e2).put hD h2, os ++ [some d], vs ++ [v], by simp [hl], snoc_all hT (by rw [hl]; exact hs), upd_same, ?_⟩
    rw [fm_snoc]
    exact ((r1.le e2 sub).append (.one r)).put (.inl rfl) h2
/-- what comes out in the end -/
def Out (n : Nat) (T : Nat → Option PyData → Prop) (d : PyData) : Prop := ∃ os : List (Option PyData), os.length = n ∧ (∀ k o, os[k]? = some o → T k o) ∧ d = .list (os.filterMap id)
theorem lw_end {T : Nat → Option PyData → Prop} {D : Addr} {n : Nat} (nk : Nk R N H) (hD : H D = none) (p : Lw R H N T D n H') : ∃ d, Out n T d ∧ Le R H H' ∧ Dt N H' d (.ref D) := by
  obtain ⟨e1, os, vs, hl, hT, h1, r1⟩ := p
  exact ⟨_, ⟨os, hl, hT, rfl⟩, e1, .lst (nk.fresh hD) h1 (r1.weak fun a h => .inr h)⟩

theorem p_lcR {ta : TA} {j : Nat} {vs : List Nat} {n : Int} (T : Nat → Option PyData → Prop) (h : ∀ H1, Le R H H1 → ∀ Q : List V → Hp → Prop, (∀ H2, Le R H1 H2 → Q [.int n] H2) → ta σ H1 Q) (hn : 0 ≤ n ∧ n ≤ 40000) (nk : Nk R N H) (hw : ∀ x, wipe ((wipe σ vs).set j (some x)) vs = wipe σ vs)
    (ht : ∀ (i : Nat) D H1, H D = none → Le R H H1 → Nk R (fun a => a = D ∨ N a) H1 → (i : Int) < n → EvF R t te ((wipe σ vs).set j (some (.int (i : Int)))) H1 (fun a => a = D ∨ N a) (T i)) :
    EvP R (tLc (iRng1 ta) (gName j) t te vs) σ H N (Out n.toNat T) := fun H0 e Q q => h H0 e _ fun H1 e1 => ⟨n, rfl, by omega, by omega, fun D hD =>
  have e01 := e.trans e1
  lc_range (lo := 0) (n := n.toNat) (Lw R H1 N T D) (lw_start e1.ok hD) (fun i H' hi p => by
    have e0 : (0 : Int) + (i : Int) = (i : Int) := Int.zero_add _
    show wipe ((wipe σ vs).set j (some (.int ((0 : Int) + (i : Int))))) vs = wipe σ vs ∧ t ((wipe σ vs).set j (some (.int ((0 : Int) + (i : Int))))) H' fun b H3 => if b = true then te ((wipe σ vs).set j (some (.int ((0 : Int) + (i : Int))))) H3 fun y H4 => ∃ acc, H4 D = some (.lst acc) ∧ acc.length < sizeLine ∧ Lw R H1 N T D (i + 1) (upd H4 D (.lst (acc ++ [y]))) else Lw R H1 N T D (i + 1) H3
    rw [e0]
    have p' := p
    obtain ⟨le', os, vs', _, _, h1, _⟩ := p'
    exact ⟨hw _, lw_turn (nk.le e01) hD p (by omega) (ht i D H' (e01.back D hD) (e01.trans le') (nk_more (nk.le e01) le' h1) (by omega))⟩) (fun H' p => by
      obtain ⟨d, o, le', r⟩ := lw_end (nk.le e01) hD p
      exact q d _ H' (e1.trans le') o r)⟩
theorem p_lcR2 {ta : TA} {j : Nat} {vs : List Nat} {lo n : Int} (T : Nat → Option PyData → Prop) (h : ∀ H1, Le R H H1 → ∀ Q : List V → Hp → Prop, (∀ H2, Le R H1 H2 → Q [.int lo, .int n] H2) → ta σ H1 Q) (hn : 0 ≤ lo ∧ lo ≤ 40000 ∧ -40000 ≤ n ∧ n ≤ 40000) (nk : Nk R N H)
    (hw : ∀ x, wipe ((wipe σ vs).set j (some x)) vs = wipe σ vs)
    (ht : ∀ (i : Nat) D H1, H D = none → Le R H H1 → Nk R (fun a => a = D ∨ N a) H1 → lo + (i : Int) < n → EvF R t te ((wipe σ vs).set j (some (.int (lo + (i : Int))))) H1 (fun a => a = D ∨ N a) (T i)) :
    EvP R (tLc (iRng2 ta) (gName j) t te vs) σ H N (Out (n - lo).toNat T) := fun H0 e Q q => h H0 e _ fun H1 e1 => ⟨lo, n, rfl, ⟨by omega, by omega, by omega, by omega⟩, fun D hD =>
  have e01 := e.trans e1
  lc_range (lo := lo) (n := (n - lo).toNat) (Lw R H1 N T D) (lw_start e1.ok hD) (fun i H' hi p => by
    have p' := p
    obtain ⟨le', os, vs', _, _, h1, _⟩ := p'
    exact ⟨hw _, lw_turn (nk.le e01) hD p (by omega) (ht i D H' (e01.back D hD) (e01.trans le') (nk_more (nk.le e01) le' h1) (by omega))⟩) (fun H' p => by
      obtain ⟨d, o, le', r⟩ := lw_end (nk.le e01) hD p
      exact q d _ H' (e1.trans le') o r)⟩
/-- over a list of data -/
theorem p_lcL {tl : TE} {j : Nat} {vs : List Nat} {ds : List PyData} (T : Nat → Option PyData → Prop) {N0 : Addr → Prop} (h : Ev R tl σ H N0 (.list ds)) (s0 : ∀ a, R.W a → N0 a) (hz : ds.length ≤ 40000) (nk : Nk R N H) (hw : ∀ x, wipe ((wipe σ vs).set j (some x)) vs = wipe σ vs)
    (ht : ∀ (i : Nat) (x : PyData) (v : V) D H1, H D = none → Le R H H1 → Nk R (fun a => a = D ∨ N a) H1 → ds[i]? = some x → Dt (fun a => a = D ∨ N0 a) H1 x v → EvF R t te ((wipe σ vs).set j (some v)) H1 (fun a => a = D ∨ N a) (T i)) :
    EvP R (tLc (iList K tl) (gName j) t te vs) σ H N (Out ds.length T) := fun H0 e Q q => h H0 e _ fun v H1 e1 r => by
  obtain ⟨a, xs, rfl, na, hl, ra⟩ := r.listy
  refine ⟨a, rfl, ⟨xs, SqL.of hl⟩, fun D hD => ?_⟩
  have e01 := e.trans e1
  have naW : ¬ R.W a := fun w => na (s0 a w)
  refine lc_list (xs := xs) (Lw R H1 N T D) (lw_start e1.ok hD) (fun i H' _ p => SqL.of (p.1.ext a _ naW hl)) (fun i x H' hi p => ?_) (fun H' p => ?_)
  · have p' := p
    obtain ⟨le', os, vs', _, _, h1, _⟩ := p'
    obtain ⟨dx, hdx, rx⟩ := ra.getV hi
    have hib := (List.getElem?_eq_some_iff.mp hdx).1
    refine ⟨hw _, lw_turn (nk.le e01) hD p (by omega) (ht i dx x D H' (e01.back D hD) (e01.trans le') (nk_more (nk.le e01) le' h1) hdx ((rx.more hD).le le' fun b w => .inr (s0 b w)))⟩
  · rw [ra.length] at p
    obtain ⟨d, o, le', r⟩ := lw_end (nk.le e01) hD p
    exact q d _ H' (e1.trans le') o r

/-! ### Out, told plainly -/
theorem out_det {n : Nat} {f : Nat → Bool} {g : Nat → PyData} {d : PyData} (h : Out n (fun i o => o = if f i = true then some (g i) else none) d) : d = .list (((List.range n).filter f).map g) := by
  obtain ⟨os, hl, hT, rfl⟩ := h
  congr 1
  have e : os = (List.range n).map fun i => if f i = true then some (g i) else none := by
    refine List.ext_getElem? fun k => ?_
    by_cases hk : k < n
    · obtain ⟨o, ho⟩ : ∃ o, os[k]? = some o := ⟨_, List.getElem?_eq_getElem (by omega)⟩
      rw [ho, hT k o ho, List.getElem?_map, List.getElem?_range hk]
      rfl
    · rw [List.getElem?_eq_none (by omega), List.getElem?_eq_none (by simp; omega)]
  rw [e, List.filterMap_map]
  clear e hT hl
  induction (List.range n) with
  | nil => rfl
  | cons i r ih =>
    cases hf : f i with
    | true => rw [List.filterMap_cons, List.filter_cons, if_pos hf, List.map_cons, ← ih]; simp [hf]
    | false => rw [List.filterMap_cons, List.filter_cons, if_neg (by rw [hf]; decide), ← ih]; simp [hf]
theorem out_all {n : Nat} {φ : Nat → PyData → Prop} {d : PyData} (h : Out n (fun i o => ∃ x, o = some x ∧ φ i x) d) : ∃ ds : List PyData, d = .list ds ∧ ds.length = n ∧ ∀ (i : Nat) x, ds[i]? = some x → φ i x := by
  obtain ⟨os, hl, hT, rfl⟩ := h
  suffices main : ∀ (os : List (Option PyData)) (k0 : Nat), (∀ k o, os[k]? = some o → ∃ x, o = some x ∧ φ (k0 + k) x) → (os.filterMap id).length = os.length ∧ ∀ (i : Nat) x, (os.filterMap id)[i]? = some x → φ (k0 + i) x by
    obtain ⟨h1, h2⟩ := main os 0 (fun k o h => by rw [Nat.zero_add]; exact hT k o h)
    exact ⟨_, rfl, by rw [h1, hl], fun i x h => by have := h2 i x h; rwa [Nat.zero_add] at this⟩
  intro os
  induction os with
  | nil => intro k0 _; exact ⟨rfl, fun i x h => by simp at h⟩
  | cons o r ih =>
    intro k0 h0
    obtain ⟨x, rfl, hx⟩ := h0 0 o rfl
    obtain ⟨h1, h2⟩ := ih (k0 + 1) (fun k o h => by have := h0 (k + 1) o (by simpa using h); rwa [show k0 + (k + 1) = k0 + 1 + k by omega] at this)
    refine ⟨by simp [h1], fun i y hi => ?_⟩
    cases i with
    | zero => simp at hi; subst hi; exact hx
    | succ i => have := h2 i y (by simpa using hi); rwa [show k0 + 1 + i = k0 + (i + 1) by omega] at this
/-- each item of a list, or not: a sublist -/
theorem out_sub {ds : List PyData} {d : PyData} (h : Out ds.length (fun i o => ∃ x, ds[i]? = some x ∧ (o = some x ∨ o = none)) d) : ∃ es : List PyData, d = .list es ∧ es.Sublist ds := by
  obtain ⟨os, hl, hT, rfl⟩ := h
  refine ⟨_, rfl, ?_⟩
  induction os generalizing ds with
  | nil => exact List.nil_sublist _
  | cons o r ih =>
    cases ds with
    | nil => simp at hl
    | cons x xs =>
      have h0 := hT 0 o rfl
      have ih' := ih (ds := xs) (by simpa using hl) (fun k o h => by simpa using hT (k + 1) o (by simpa using h))
      simp at h0
      rcases h0 with h0 | h0
      · subst h0
        exact ih'.cons_cons x
      · subst h0
        exact ih'.cons x
end
end FF
set_option Elab.async false
set_option linter.all false
set_option maxRecDepth 100000
set_option maxHeartbeats 4000000
/-! sorted(set(xs)), xs a list of whole numbers, any number of them up to a thousand -/
namespace FF
open PySem PySem.Spec PyProof.Rows L2
/-- the empty set, as the model makes it -/
abbrev set0 (w : World) : Obj := { cls := .type "set", dict := none, data := .set #[] 0 (.fresh 0 0 (!w.params.followText "set-order")) }
section
variable {P : Program} {w : World} {A : Around} {E : Value → Shared → Prop} {s : Shared}
set_option maxRecDepth 100000 in
set_option maxHeartbeats 8000000 in
theorem set_of_ints {l : Addr} {xs : Array Value} (ns : List Int) {Q : Value → Shared → Prop} (calm : A.handled = none) (isl : s.heap.IsList l xs) (hInts : IntsAre xs.toList ns) (few : ns.length + 1 < scanBound)
    (k : ∀ (g : Heap) (tk c : Nat), SetR w g s.heap.objs.size (fun j => decide (j ∈ ns)) c → (∀ b o, s.heap.get? b = some o → g.get? b = some o) → Q (.ref s.heap.objs.size) { s with heap := g, toks := tk }) :
    wpAny (model P w) A (call (.type "set") [.ref l]) Q E s := by
  have xn : xs.size = ns.length := (Array.length_toList (xs := xs)).symm.trans (IntsAre.length hInts)
  obtain ⟨_, _, mro1⟩ := F.called_set.mro
  have made1 := F.called_set.made
  have sub1 := F.called_set.sub
  refine wpAny_call (codeAny_of_tree ?_)
  show wpAny _ _ (callAny (.type "set") _) _ _ _
  refine wpAny_pure ⟨Code.quiet_builtin _ (by decide +kernel), ?_⟩
  refine codeAny_builtin F.entry_type_call ?_
  rw [Around.under_plain (weight_type_call_type "set" [.ref l] []) rfl]
  have nt := F.called_set.notType
  have cc := F.called_set.canCreate
  have ct := F.typeCall_set_1 (.ref l)
  repeat (any_goals (first | assumption | wp_step))
  refine codeAny_mono (code_set_led1 (.ref l) (E := E) (Q₁ := fun o t => o = .ref s.heap.objs.size ∧ t = { s with heap := s.heap.push (set0 w) }) ⟨rfl, rfl⟩) fun r t hr => ?_
  match r, hr with
  | .error _, hr => exact hr
  | .ok .next, hr => exact hr.elim
  | .ok .brk, hr => exact hr.elim
  | .ok .cont, hr => exact hr.elim
  | .ok (.ret _), ⟨e1, e2⟩ =>
    subst e1; subst e2
    have at0 : (s.heap.push (set0 w)).get? s.heap.objs.size = some (set0 w) := Heap.get?_push_size _ rfl
    have ty0 : Shared.TypeIs { s with heap := s.heap.push (set0 w) } (.ref s.heap.objs.size) "set" := ⟨_, at0, rfl⟩
    have il := F.called_set.init.lookup
    have ib := F.called_set.init.bind (.ref s.heap.objs.size)
    repeat (any_goals (first | assumption | wp_step))
    refine codeAny_mono (codeAny_call_builtin (R := wants (fun r2 t2 => r2 = .none ∧ ∃ g tk c, t2 = { s with heap := g, toks := tk } ∧ SetR w g s.heap.objs.size (fun j => decide (j ∈ ns)) c ∧
        (∀ b o, s.heap.get? b = some o → g.get? b = some o)) E) F.called_set.init.plain F.entry_set_init (check_set_init_1 ty0 ?_)) fun r2 t2 hr2 => ?_
    · obtain ⟨⟨oc, od, odt, osl⟩, ol, cl, nl, dl⟩ := isl
      simp only at cl dl
      subst cl; subst dl
      have ol1 : (s.heap.push (set0 w)).get? l = some { cls := .type "list", dict := od, data := .seq xs nl, slots := osl } := Heap.get?_push_of_some _ ol
      have q1 := F.sub_list_set
      have q2 := F.sub_list_frozenset
      have q3 : (Value.type "list" == Value.type "dict") = false := by decide
      have isl1 : (s.heap.push (set0 w)).IsList l xs := ⟨_, ol1, rfl, nl, rfl⟩
      unfold Builtin.«set.__init__» noKeywords Builtin.Frozenset.updateFrom
      generalize hI : pyIter = II
      wp_walk
      subst hI
      refine wpAny_pyIter_list isl1 ?_
      refine wpAny_bind (wpAny_runValue ?_)
      have lS : l < s.heap.objs.size := Heap.lt_size ol
      have calm3 : A.in1.in1.in1.handled = none := by simp [calm]
      have sz1 : (s.heap.push (set0 w)).objs.size = s.heap.objs.size + 1 := Heap.size_push ..
      have lne : l ≠ (s.heap.push (set0 w)).objs.size := by rw [sz1]; exact Nat.ne_of_lt (Nat.lt_succ_of_lt lS)
      have sout : s.heap.objs.size ∉ [(s.heap.push (set0 w)).objs.size, l] := by
        rw [sz1]
        simp only [List.mem_cons, List.not_mem_nil, or_false, not_or]
        exact ⟨Nat.ne_of_lt (Nat.lt_succ_self _), Nat.ne_of_gt lS⟩
      have each : ∀ (i : Nat) (v : Value), xs[i]? = some v → ∃ z t, ns[i]? = some z ∧ v = .int z t := fun i v hv => by
        obtain ⟨t, e⟩ := PyProof.Rows.IntsAre.int_at hInts i v (by rw [Array.getElem?_toList]; exact hv)
        have hi : i < ns.length := by rw [← xn]; exact (Array.getElem?_eq_some_iff.mp hv).1
        exact ⟨ns[i], t, List.getElem?_eq_getElem hi, by rw [e, List.getD_eq_getElem?_getD, List.getElem?_eq_getElem hi] <;> rfl⟩
      refine set_update_ints ((Walks.list calm3 _ l lne xs).toS) s.heap.objs.size sout ns xn few each (xs.size - 0) 0 _ (by omega) (Nat.zero_le _) ⟨⟨_, Heap.get?_push_size _ rfl, rfl, rfl⟩, (isl1.push _)⟩ ?start ?after
      case start => exact ⟨0, Nat.le_refl 0, setR_new_at (Heap.get?_push_of_some _ at0)⟩
      case after =>
        rintro ⟨g, gg, dd, tk, oo⟩ c mv _ hS
        obtain rfl : gg = s.gens := mv.gens
        obtain rfl : dd = s.drawn := mv.drawn
        obtain rfl : oo = s.os := mv.os
        show wpAny _ _ _ _ _ _
        refine wpAny_pure ?_
        show wpAny _ _ (ret Value.none) _ _ _
        refine wpAny_pure ⟨rfl, g, tk, c, rfl, hS, fun b o e => ?_⟩
        have lb := Heap.lt_size e
        refine mv.heap b o ?_ (Heap.get?_push_of_some _ (Heap.get?_push_of_some _ e))
        rw [sz1]
        simp only [List.mem_cons, List.not_mem_nil, or_false, not_or]
        exact ⟨Nat.ne_of_lt lb, Nat.ne_of_lt (Nat.lt_succ_of_lt lb)⟩
    · match r2, hr2 with
      | .error _, hr2 => exact hr2
      | .ok .next, hr2 => exact hr2.elim
      | .ok .brk, hr2 => exact hr2.elim
      | .ok .cont, hr2 => exact hr2.elim
      | .ok (.ret _), ⟨e3, g, tk, c, e4, hS, kp⟩ =>
        subst e3; subst e4
        repeat (any_goals (first | assumption | wp_step))
        exact k _ _ _ hS kp

theorem sorted_of_set {a : Addr} {S : Int → Bool} {n : Nat} {Q : Value → Shared → Prop} (R : SetR w s.heap a S n) (calm : A.handled = none)
    (k : ∀ t p (out : List Value) (c : Nat) (ns : List Int), (∀ b o, s.heap.get? b = some o → t.heap.get? b = some o) → t.gens = s.gens → t.os = s.os → s.heap.objs.size ≤ p →
      t.heap.get? p = some (seqObj "list" out.toArray c) → IntsAre out ns → ns.Pairwise (· < ·) → (∀ z, z ∈ ns ↔ S z = true) → ns.length < scanBound → Q (.ref p) t) :
    wpAny (model P w) A (call (.builtin "sorted") [.ref a]) Q E s := by
  obtain ⟨o, es, ep, t, ho, ex, hd, good, nd, mem, few, fits, -, ris, led⟩ := R
  refine Calls.call_function_entry kind_sorted plain_sorted entry_sorted (args_sorted1 _) ?_
  unfold Builtin.«sorted»
  refine wpAny_bind (m := checkCount "sorted" 1 1 _) (wpAny_pure ?_)
  refine wpAny_bind (collect_set (A := A.in1) calm ⟨o, ho, ex.1, hd⟩ fits few ris led fun s1 vs k1 z1 g1 o1 pm => ?_)
  have vl : vs.length = es.size := by rw [pm.length_eq, List.length_map, Array.length_toList]
  have sl : vs.length ≤ sizeLine := by
    have q := few
    rw [vl]
    exact Nat.le_of_lt (Nat.lt_trans q (by decide))
  have vI : IntsAre vs (vs.map Builtin.Re.reRawOf) := ints_of vs fun v hv => by
    obtain ⟨e, he, q⟩ := List.mem_map.mp (pm.mem_iff.mp hv)
    obtain ⟨z, tk, h1, _⟩ := good e he
    exact ⟨z, tk, q ▸ h1⟩
  have pk : (vs.map Builtin.Re.reRawOf).Perm (es.toList.map keyOf) := by
    have q := pm.map Builtin.Re.reRawOf
    rwa [List.map_map] at q
  refine wpAny_bind (wpAny_newList ?_ sl)
  have atL : (s1.heap.push (seqObj "list" vs.toArray 0)).get? s1.heap.objs.size = some (seqObj "list" vs.toArray 0) := Heap.get?_push_size _ rfl
  refine wpAny_bind (wpAny_holding (wpAny_call_entry slot_list_sort ⟨_, atL, rfl⟩ entry_list_sort (SrtO.list_sort_ord SrtO.swo_int atL sl (fun h2 => SrtO.ints_sortable vI h2) fun out h1 h2 => ⟨_, rfl, ?_⟩) (args_list_sort _)))
  obtain ⟨i1, i2, i3⟩ := SrtO.ints_out vI h1 h2
  obtain ⟨c, hc⟩ := sortedHeap_at (vs := vs) (out := out.toArray) atL
  have pn := i2.trans pk
  refine wpAny_pure ⟨_, rfl, k _ s1.heap.objs.size out c _ (fun b u e => ?_) g1 o1 z1 hc i1 (lt_of_le_nodup _ i3 (pn.nodup_iff.mpr nd)) (fun z => by rw [pn.mem_iff, ← mem z]) ?_⟩
  · have q := k1 b u e
    have lt := Heap.lt_size q
    show (sortedHeap (s1.heap.push (seqObj "list" vs.toArray 0)) s1.heap.objs.size vs out.toArray).get? b = some u
    rw [sortedHeap_old (Nat.ne_of_lt lt) (by rw [size_push']; exact Nat.lt_succ_of_lt lt)]
    exact Heap.get?_push_of_some _ q
  · rw [pn.length_eq, List.length_map, Array.length_toList]
    exact few
end
def rSetI (K : PySem.W.Frag) (w : World) : List V → Hp → VK → Prop := fun xs H Q => ∃ (l : Addr) (ns : List Int), xs = [V.ref l] ∧ SqL K H l (ns.map V.int) ∧ ns.length ≤ 1000 ∧
  ∀ a c, H a = none → Q (.ref a) (upd H a (SetO w a (fun j => decide (j ∈ ns)) c))
def rSortSet (w : World) : List V → Hp → VK → Prop := fun xs H Q => ∃ (a : Addr) (S : Int → Bool) (n : Nat), xs = [V.ref a] ∧ H a = some (SetO w a S n) ∧
  ∀ (ns : List Int) (p : Addr), ns.Pairwise (· < ·) → (∀ z : Int, z ∈ ns ↔ S z = true) → H p = none → Q (.ref p) (upd H p (.lst (ns.map V.int)))
section
variable {X : Cx}
theorem cr_setI (hc : X.calm = true) : CallR X (.type "set") (rSetI X.K X.w) := by
  intro pins s σ H xs us Q I r h
  obtain ⟨l, ns, rfl, hl, hf, q⟩ := h
  obtain ⟨its, rv, pl, hz⟩ := I.list hl
  have hn : H s.heap.objs.size = none := I.hok.fresh (Nat.le_refl _)
  rw [Vals.ref1 r]
  have few : ns.length + 1 < scanBound := Nat.lt_of_le_of_lt (Nat.add_le_add_right hf 1) (by decide)
  refine set_of_ints (P := X.prog) (w := X.w) ns (I.ok.hd hc) pl.isList (by simpa using rv.ints) few fun g tk c R k => ?_
  exact ⟨.ref s.heap.objs.size, _, I.laid (t' := tk) k (Nat.le_refl _) (setO_new R), rfl, q _ c hn⟩
theorem cr_sortSet (hc : X.calm = true) : CallR X (.builtin "sorted") (rSortSet X.w) := by
  intro pins s σ H vs us Q I r h
  obtain ⟨a, S, n, rfl, ha, q⟩ := h
  have R := setO_get I ha
  rw [Vals.ref1 r]
  refine sorted_of_set R (I.ok.hd hc) fun t p out c ns k g o hp hg hi hs hm hl => ?_
  have hlen : (ns.map V.int).length ≤ sizeLine := by
    rw [List.length_map]
    exact Nat.le_of_lt (Nat.lt_trans hl (by decide))
  have hn : H p = none := I.hok.fresh hp
  have J : Inv X pins σ (upd H p (.lst (ns.map V.int))) { s with heap := t.heap, gens := t.gens, drawn := t.drawn, toks := t.toks } :=
    I.call (ch := []) (Un.laid k hp hn) (I.hok.laid k hp ⟨hlen, out, c, vals_of_ints hi, hg⟩) (by rw [g]; exact I.bare) (fun _ z => nomatch z)
  have e : t = { s with heap := t.heap, gens := t.gens, drawn := t.drawn, toks := t.toks } := by
    cases t; cases s; cases o; rfl
  rw [e]
  exact ⟨.ref p, _, J, rfl, q ns p hs hm hn⟩
/-- sorted(set(xs)) -/
def tSortedSet (K : PySem.W.Frag) (ta : TE) : TE := fun σ H Q => ta σ H fun x H1 => ∃ (l : Addr) (ns : List Int), x = .ref l ∧ SqL K H1 l (ns.map V.int) ∧ ns.length ≤ 1000 ∧
  ∀ (ns' : List Int) (q p : Addr) (o : HO) , ns'.Pairwise (· < ·) → (∀ z : Int, z ∈ ns' ↔ z ∈ ns) → H1 q = none → (upd H1 q o) p = none → Q (.ref p) (upd (upd H1 q o) p (.lst (ns'.map V.int)))
theorem pe_sortedSet {a : Expr} {ta : TE} {p p2 q pos : Pos} (hc : X.calm = true) (hg : Gl X "sorted") (hg2 : Gl X "set") (hm : X.mg "sorted" = none) (hm2 : X.mg "set" = none) (ha : PE X a ta)
    (h1 : starEach [.Call (.Name "set" p2) [a] [] q] X.env = (false, eval (.Call (.Name "set" p2) [a] [] q) X.env) :: starEach [] X.env := by rfl) (h2 : starEach [a] X.env = (false, eval a X.env) :: starEach [] X.env := by rfl) :
    PE X (.Call (.Name "sorted" p) [.Call (.Name "set" p2) [a] [] q] [] pos) (tSortedSet X.K ta) := by
  have ha' : PE X a (fun σ H Q => ∃ Q1 : VK, ta σ H Q1 ∧ ∀ v H', Q1 v H' → Q v H') := ⟨fun pins s σ H Q I ⟨Q1, h, m⟩ =>
    wpAny_mono (ha.run pins s σ H Q1 I h) (fun u s' ⟨v, H', I', r, z⟩ => ⟨v, H', I', r, m v H' z⟩) fun _ _ z => z⟩
  have main := pe_callB (pos := pos) (p := p) (cr_sortSet hc) hg hm (by decide +kernel) (pa_cons (pe_callTy (pos := q) (p := p2) (he := h2) (cr_setI hc) hg2 hm2 (by decide +kernel) (pa_cons ha' pa_nil h2)) pa_nil h1) (he := h1)
  refine ⟨fun pins s σ H Q I h => main.run pins s σ H Q I ⟨_, h, ?_⟩⟩
  rintro x H1 ⟨l, ns, rfl, hl, hz, k⟩
  refine ⟨l, ns, rfl, hl, hz, fun b c hb => ⟨b, _, c, rfl, upd_same, fun ns' r pw mem hr => ?_⟩⟩
  exact k ns' b r _ pw (fun z => (mem z).trans (by simp)) hb hr
end
end FF
set_option Elab.async false
set_option linter.all false
set_option maxRecDepth 100000
set_option maxHeartbeats 2000000
/-! drawn numbers; the pool of letters and marks; the drawn text -/
namespace FF
open PySem PySem.Spec PyProof.Rows L2
open Evl (Ex fresh_back)

/-- a whole number of which φ holds -/
def EvZ (R : Rg) (te : TE) (σ : L2.St) (H : Hp) (φ : Int → Prop) : Prop := ∀ H1, Le R H H1 → ∀ Q : VK, (∀ z H2, Le R H1 H2 → φ z → Q (.int z) H2) → te σ H1 Q
section
variable {R : Rg} {K : PySem.W.Frag} {σ : L2.St} {H H' : Hp} {N N' : Addr → Prop} {ta tb tc te ti : TE} {t u : TT} {d : PyData} {φ ψ χ : Int → Prop} {ar as : Addr} {sc : List Int}
theorem EvZ.go (h : EvZ R te σ H φ) (ok : R.I H) {Q : VK} (q : ∀ z H2, Le R H H2 → φ z → Q (.int z) H2) : te σ H Q := h H (Le.refl ok) Q q
theorem EvZ.le (h : EvZ R te σ H φ) (e : Le R H H') : EvZ R te σ H' φ := fun H1 a Q q => h H1 (e.trans a) Q q
theorem EvZ.imp (h : EvZ R te σ H φ) (f : ∀ z, φ z → ψ z) : EvZ R te σ H ψ := fun H1 e Q q => h H1 e Q fun z H2 e2 p => q z H2 e2 (f z p)
theorem z_of {z : Int} (h : Ev R te σ H N (.int z)) (p : φ z) : EvZ R te σ H φ := fun H1 e Q q => h H1 e Q fun v H2 e2 r => by
  cases r
  exact q z H2 e2 p
theorem EvZ.p (h : EvZ R te σ H φ) : EvP R te σ H N (fun d => ∃ z, d = .int z ∧ φ z) := fun H1 e Q q => h H1 e Q fun z H2 e2 p => q _ _ H2 e2 ⟨z, rfl, p⟩ (.int z)
theorem z_add (ha : EvZ R ta σ H φ) (hb : EvZ R tb σ H ψ) (f : ∀ i j, φ i → ψ j → χ (i + j)) : EvZ R (tOp (rAddU K) ta tb) σ H χ := fun H1 e Q q =>
  ha H1 e _ fun i H2 e2 p => hb H2 (e.trans e2) _ fun j H3 e3 p' => .inl ⟨i, j, rfl, rfl, q _ H3 (e2.trans e3) (f i j p p')⟩
theorem z_mod {j : Int} (ha : EvZ R ta σ H φ) (hb : Ev R tb σ H N (.int j)) (hj : j ≠ 0) (f : ∀ i, φ i → χ (i.fmod j)) : EvZ R (tOp (rI (fun _ j => j ≠ 0) fun i j => .int (i.fmod j)) ta tb) σ H χ := fun H1 e Q q =>
  ha H1 e _ fun i H2 e2 p => hb H2 (e.trans e2) _ fun v H3 e3 r => by
    cases r
    exact ⟨i, j, rfl, rfl, hj, q _ H3 (e2.trans e3) (f i p)⟩
theorem z_div {j : Int} (ha : EvZ R ta σ H φ) (hb : Ev R tb σ H N (.int j)) (hj : j ≠ 0 ∧ j.natAbs < 1073741824) (f : ∀ i, φ i → χ (i.fdiv j)) : EvZ R (tOp (rI CDivN fun i j => .int (i.fdiv j)) ta tb) σ H χ := fun H1 e Q q =>
  ha H1 e _ fun i H2 e2 p => hb H2 (e.trans e2) _ fun v H3 e3 r => by
    cases r
    exact ⟨i, j, rfl, rfl, hj, q _ H3 (e2.trans e3) (f i p)⟩
/-! ### statements -/
variable {D : Ends} {tu tw tz : TS} {φp : PyData → Prop}
theorem s_asg {i : Nat} (h : Ev R te σ H N d) (ok : R.I H) (q : ∀ v H2, Le R H H2 → Dt N H2 d v → D.nx (σ.set i (some v)) H2) : tAsg te (gName i) D σ H := h H (Le.refl ok) _ q
theorem s_asgP {i : Nat} (h : EvP R te σ H N φp) (ok : R.I H) (q : ∀ d v H2, Le R H H2 → φp d → Dt N H2 d v → D.nx (σ.set i (some v)) H2) : tAsg te (gName i) D σ H := h H (Le.refl ok) _ q
theorem s_asgZ {i : Nat} (h : EvZ R te σ H φ) (ok : R.I H) (q : ∀ z H2, Le R H H2 → φ z → D.nx (σ.set i (some (.int z))) H2) : tAsg te (gName i) D σ H := h H (Le.refl ok) _ q
theorem s_ret (h : Ev R te σ H N d) (ok : R.I H) (q : ∀ v H2, Le R H H2 → Dt N H2 d v → D.rt v H2) : tRet te D σ H := h H (Le.refl ok) _ q
theorem s_retP (h : EvP R te σ H N φp) (ok : R.I H) (q : ∀ d v H2, Le R H H2 → φp d → Dt N H2 d v → D.rt v H2) : tRet te D σ H := h H (Le.refl ok) _ q
theorem s_if {b : Bool} (h : EvT R t σ H b) (ok : R.I H) (h1 : b = true → ∀ H2, Le R H H2 → tu D σ H2) (h2 : b = false → ∀ H2, Le R H H2 → tw D σ H2) : tIfS t tu tw D σ H := h H (Le.refl ok) _ fun H2 e => by
  cases b with
  | true => exact h1 rfl H2 e
  | false => exact h2 rfl H2 e
theorem s_ifP {φb : Bool → Prop} (h : EvTP R t σ H φb) (ok : R.I H) (h1 : φb true → ∀ H2, Le R H H2 → tu D σ H2) (h2 : φb false → ∀ H2, Le R H H2 → tw D σ H2) : tIfS t tu tw D σ H := h H (Le.refl ok) _ fun b H2 e p => by
  cases b with
  | true => exact h1 p H2 e
  | false => exact h2 p H2 e
theorem s_drop (h : Ev R te σ H N d) (ok : R.I H) (q : ∀ H2, Le R H H2 → D.nx σ H2) : tDrop te D σ H := h H (Le.refl ok) _ fun v H2 e _ => q H2 e
/-- .. and what follows -/
theorem q_asg {i : Nat} (h : Ev R te σ H N d) (ok : R.I H) (q : ∀ v H2, Le R H H2 → Dt N H2 d v → tz D (σ.set i (some v)) H2) : tSeq (tAsg te (gName i)) tz D σ H := h H (Le.refl ok) _ q
theorem q_asgP {i : Nat} (h : EvP R te σ H N φp) (ok : R.I H) (q : ∀ d v H2, Le R H H2 → φp d → Dt N H2 d v → tz D (σ.set i (some v)) H2) : tSeq (tAsg te (gName i)) tz D σ H := h H (Le.refl ok) _ q
theorem q_asgZ {i : Nat} (h : EvZ R te σ H φ) (ok : R.I H) (q : ∀ z H2, Le R H H2 → φ z → tz D (σ.set i (some (.int z))) H2) : tSeq (tAsg te (gName i)) tz D σ H := h H (Le.refl ok) _ q
theorem q_if {b : Bool} (h : EvT R t σ H b) (ok : R.I H) (h1 : b = true → ∀ H2, Le R H H2 → tu { D with nx := tz D } σ H2) (h2 : b = false → ∀ H2, Le R H H2 → tw { D with nx := tz D } σ H2) : tSeq (tIfS t tu tw) tz D σ H := s_if (D := { D with nx := tz D }) h ok h1 h2
theorem q_ifP {φb : Bool → Prop} (h : EvTP R t σ H φb) (ok : R.I H) (h1 : φb true → ∀ H2, Le R H H2 → tu { D with nx := tz D } σ H2) (h2 : φb false → ∀ H2, Le R H H2 → tw { D with nx := tz D } σ H2) : tSeq (tIfS t tu tw) tz D σ H := s_ifP (D := { D with nx := tz D }) h ok h1 h2
theorem q_whenP {φb : Bool → Prop} (h : EvTP R t σ H φb) (ok : R.I H) (h1 : φb true → ∀ H2, Le R H H2 → tu { D with nx := tz D } σ H2) (h2 : φb false → ∀ H2, Le R H H2 → tz D σ H2) : tSeq (tIfS t tu tNext) tz D σ H := q_ifP h ok h1 h2
theorem q_yes (h : EvT R t σ H true) (ok : R.I H) (h1 : ∀ H2, Le R H H2 → tu { D with nx := tz D } σ H2) : tSeq (tIfS t tu tw) tz D σ H := h H (Le.refl ok) _ h1
theorem q_no (h : EvT R t σ H false) (ok : R.I H) (h1 : ∀ H2, Le R H H2 → tz D σ H2) : tSeq (tIfS t tu tNext) tz D σ H := h H (Le.refl ok) _ h1
theorem q_drop (h : Ev R te σ H N d) (ok : R.I H) (q : ∀ H2, Le R H H2 → tz D σ H2) : tSeq (tDrop te) tz D σ H := h H (Le.refl ok) _ fun v H2 e _ => q H2 e
/-- a drawn number, compared -/
theorem t_eqZ {j : Int} (ha : EvZ R ta σ H φ) (hb : Ev R tb σ H N (.int j)) : EvTP R (tTest (tOp (rEqD K) ta tb)) σ H (fun _ => True) := fun H1 e Q q =>
  ha H1 e _ fun i H2 e2 p => hb H2 (e.trans e2) _ fun v H3 e3 r => by
    cases r
    exact ⟨.int i, .int j, .int i, .int j, by rfl, by rfl, _, rfl, q _ H3 (e2.trans e3) trivial⟩
theorem t_gtZ {j : Int} (ha : EvZ R ta σ H φ) (hb : Ev R tb σ H N (.int j)) : EvTP R (tTest (tOp (rI0 fun i j => .bl (decide (j < i))) ta tb)) σ H (fun _ => True) := fun H1 e Q q =>
  ha H1 e _ fun i H2 e2 p => hb H2 (e.trans e2) _ fun v H3 e3 r => by
    cases r
    exact ⟨i, j, rfl, rfl, _, rfl, q _ H3 (e2.trans e3) trivial⟩
/-- a draw -/
theorem z_draw {i : Nat} {many : Int} (hσ : σ[i]? = some (some (.ref ar))) (hm : Ev (Rr K ar as sc) tb σ H N (.int many)) (h0 : 0 < many) (h1 : many < 1000000000) : EvZ (Rr K ar as sc) (tCall (sp__law_taken K) [] E0 (tCons (tVar i) (tCons tb tNil))) σ H (fun z => 0 ≤ z ∧ z < many) := fun H1 e Q q =>
  ⟨_, hσ, hm H1 e _ fun v H2 e2 r => by
    cases r
    exact ⟨ar, as, sc, many, rfl, e2.ok, h0, h1, fun z H3 z0 z1 e3 => q z H3 (e2.trans e3) ⟨z0, z1⟩⟩⟩
/-- [a, b][i] -/
theorem z_pick2 (ha : EvZ R ta σ H χ) (hb : EvZ R tb σ H χ) (hi : EvZ R ti σ H (fun z => 0 ≤ z ∧ z < 2)) : EvZ R (tOp (rIx K) (tLst (tCons ta (tCons tb tNil))) ti) σ H χ := fun H1 e Q q =>
  ha H1 e _ fun i H2 e2 p => hb H2 (e.trans e2) _ fun j H3 e3 p' => ⟨by show 2 ≤ sizeLine; decide, fun a hp => by
    have l4 : Le R H3 (upd H3 a (.lst [.int i, .int j])) := Le.new hp e3.ok
    have aW : ¬ R.W a := fun w => by obtain ⟨xs, z, _⟩ := R.wt H3 a e3.ok w; rw [hp] at z; cases z
    refine hi _ (((e.trans e2).trans e3).trans l4) _ fun z H5 e5 pz => ?_
    have h5 := e5.ext a _ aW upd_same
    rcases (by omega : z = 0 ∨ z = 1) with rfl | rfl
    · exact .inl ⟨a, _, 0, .int i, rfl, rfl, SqL.of h5, rfl, q _ H5 (((e2.trans e3).trans l4).trans e5) p⟩
    · exact .inl ⟨a, _, 1, .int j, rfl, rfl, SqL.of h5, rfl, q _ H5 (((e2.trans e3).trans l4).trans e5) p'⟩⟩
/-- range of a drawn number -/
theorem p_lcZ {tn : TE} {j : Nat} {vs : List Nat} (T : Int → Nat → Option PyData → Prop) (h : EvZ R tn σ H φ) (hn : ∀ n, φ n → 0 ≤ n ∧ n ≤ 40000) (nk : Nk R N H) (hw : ∀ x, wipe ((wipe σ vs).set j (some x)) vs = wipe σ vs)
    (ht : ∀ (n : Int) (i : Nat) D H1, φ n → H D = none → Le R H H1 → Nk R (fun a => a = D ∨ N a) H1 → (i : Int) < n → EvF R t te ((wipe σ vs).set j (some (.int (i : Int)))) H1 (fun a => a = D ∨ N a) (T n i)) :
    EvP R (tLc (iRng1 (tCons tn tNil)) (gName j) t te vs) σ H N (fun d => ∃ n, φ n ∧ Out n.toNat (T n) d) := fun H0 e Q q => h H0 e _ fun n H1 e1 p => by
  have hb := hn n p
  have main := p_lcR (R := R) (σ := σ) (H := H1) (N := N) (te := te) (t := t) (ta := tCons (tC (.int n)) tNil) (j := j) (vs := vs) (n := n) (T n) (fun H2 e2 Q q => q H2 (Le.refl e2.ok)) hb (nk.le (e.trans e1)) hw
    (fun i D H2 hD e2 nk2 hi => ht n i D H2 p ((e.trans e1).back D hD) ((e.trans e1).trans e2) nk2 hi)
  exact main H1 (Le.refl e1.ok) Q fun d v H2 e2 o r => q d v H2 (e1.trans e2) ⟨n, p, o⟩ r
theorem p_sset {ns : List Int} (h : Ev R te σ H N (.list (ns.map .int))) (hz : ns.length ≤ 1000) (nk : Nk R N H) : EvP R (tSortedSet K te) σ H N (fun d => ∃ ns' : List Int, d = .list (ns'.map .int) ∧ ns'.Pairwise (· < ·) ∧ ∀ z, z ∈ ns' ↔ z ∈ ns) := fun H1 e Q q =>
  h H1 e _ fun v H2 e2 r => by
    obtain ⟨a, xs, rfl, na, hl, ra⟩ := r.listy
    have ex := ra.ints
    subst ex
    refine ⟨a, ns, rfl, SqL.of hl, hz, fun ns' b p o pw mem hb hp => ?_⟩
    have l3 : Le R H2 (upd H2 b o) := Le.new hb e2.ok
    obtain ⟨l4, d4⟩ := new_l (ds := ns'.map .int) (nk.le (e.trans e2)) l3 hp (dta_ints ns')
    exact q _ _ _ ((e2.trans l3).trans l4) ⟨ns', rfl, pw, mem⟩ d4
/-- letters and marks as the laws draw them -/
structure PoolOk (ls ms : List Int) : Prop where
  lr : ls.Pairwise (· < ·)
  mr : ms.Pairwise (· < ·)
  lb : ∀ z ∈ ls, 0 ≤ z ∧ z < 800
  mb : ∀ z ∈ ms, 800 ≤ z ∧ z < 1000
  ll : 0 < ls.length ∧ ls.length ≤ 92
  ml : 0 < ms.length ∧ ms.length ≤ 5
def poolD (ls ms : List Int) : PyData := .tuple [.list (ls.map .int), .list (ms.map .int)]
def sp__law_pool (K : PySem.W.Frag) : Sp := fun vs H Q _ => ∃ (ar as : Addr) (sc : List Int), vs = [.ref ar] ∧ RowI K ar as sc H ∧
  ∀ (ls ms : List Int) (v : V) (H' : Hp), PoolOk ls ms → Le (Rr K ar as sc) H H' → Dt (Dom H) H' (poolD ls ms) v → Q v H'
theorem erase_len : ∀ (xs ys : List Int), xs.Nodup → (∀ z ∈ xs, z ∈ ys) → xs.length ≤ ys.length
  | [], _, _, _ => Nat.zero_le _
  | x :: xs, ys, nd, h => by
    obtain ⟨h1, h2⟩ := List.nodup_cons.mp nd
    have hx := h x List.mem_cons_self
    have ih := erase_len xs (ys.erase x) h2 fun z hz => by
      have hne : z ≠ x := fun q => h1 (q ▸ hz)
      exact (List.mem_erase_of_ne hne).mpr (h z (List.mem_cons_of_mem _ hz))
    have e := List.length_erase_of_mem hx
    have pos : 0 < ys.length := List.length_pos_of_mem hx
    rw [List.length_cons]
    omega
theorem lt_nodup {xs : List Int} (h : xs.Pairwise (· < ·)) : xs.Nodup := h.imp fun {a b} q z => by omega
theorem pool_ok {ls ms ls' ms' : List Int} (h1 : ls'.Pairwise (· < ·)) (h2 : ∀ z, z ∈ ls' ↔ z ∈ ls) (h3 : ms'.Pairwise (· < ·)) (h4 : ∀ z, z ∈ ms' ↔ z ∈ ms) (l0 : 0 < ls.length) (l1 : ls.length ≤ 92) (m0 : 0 < ms.length) (m1 : ms.length ≤ 5)
    (lb : ∀ z ∈ ls, 0 ≤ z ∧ z < 800) (mb : ∀ z ∈ ms, 800 ≤ z ∧ z < 1000) : PoolOk ls' ms' where
  lr := h1
  mr := h3
  lb := fun z hz => lb z ((h2 z).mp hz)
  mb := fun z hz => mb z ((h4 z).mp hz)
  ll := by
    refine ⟨?_, Nat.le_trans (erase_len _ _ (lt_nodup h1) fun z hz => (h2 z).mp hz) l1⟩
    obtain ⟨x, hx⟩ := List.exists_mem_of_length_pos l0
    exact List.length_pos_of_mem ((h2 x).mpr hx)
  ml := by
    refine ⟨?_, Nat.le_trans (erase_len _ _ (lt_nodup h3) fun z hz => (h4 z).mp hz) m1⟩
    obtain ⟨x, hx⟩ := List.exists_mem_of_length_pos m0
    exact List.length_pos_of_mem ((h4 x).mpr hx)
/-- slots ['_law_row', '_law_begin', '_law_letters', '_law_marks', '_law_k'] -/
abbrev r__law_pool (K : PySem.W.Frag) : TS :=
    (tSeq (tAsg (tCall (sp__law_taken K) [] E0 (tCons (tVar 0) (tCons (tC (.int 700)) tNil))) (gName 1))
    (tSeq (tAsg (tLc (iRng1 (tCons (tOp (rAddU K) (tC (.int 2)) (tOp (rIx K) (tLst (tCons (tCall (sp__law_taken K) [] E0 (tCons (tVar 0) (tCons (tC (.int 6)) tNil))) (tCons (tCall (sp__law_taken K) [] E0 (tCons (tVar 0) (tCons (tC (.int 89)) tNil))) tNil))) (tOp (rI CDivN fun i j => .int (i.fdiv j)) (tCall (sp__law_taken K) [] E0 (tCons (tVar 0) (tCons (tC (.int 6)) tNil))) (tC (.int 5))))) tNil)) (gName 4) tYes (tOp (rAddU K) (tVar 1) (tVar 4)) [4]) (gName 2))
    (tSeq (tAsg (tLc (iRng1 (tCons (tC (.int 3)) tNil)) (gName 4) tYes (tOp (rAddU K) (tOp (rAddU K) (tC (.int 800)) (tCall (sp__law_taken K) [] E0 (tCons (tVar 0) (tCons (tC (.int 190)) tNil)))) (tVar 4)) [4]) (gName 3))
    (tSeq (tIfS (tTest (tOp (rEqD K) (tCall (sp__law_taken K) [] E0 (tCons (tVar 0) (tCons (tC (.int 6)) tNil))) (tC (.int 5)))) (tSeq (tAsg (tOp (rAddU K) (tVar 2) (tLst (tCons (tC (.int 0)) (tCons (tC (.int 799)) tNil)))) (gName 2))
    (tAsg (tOp (rAddU K) (tVar 3) (tLst (tCons (tC (.int 800)) (tCons (tC (.int 999)) tNil)))) (gName 3))) tNext)
    (tRet (tTup (tCons (tSortedSet K (tVar 2)) (tCons (tSortedSet K (tVar 3)) tNil))))))))
/-- a list of whole numbers, each in a range -/
theorem ints_all {n : Nat} {φ : Nat → Int → Prop} {d : PyData} (h : Out n (fun i o => ∃ x, o = some x ∧ ∃ z, x = .int z ∧ φ i z) d) : ∃ ns : List Int, d = .list (ns.map .int) ∧ ns.length = n ∧ ∀ z ∈ ns, ∃ i, i < n ∧ φ i z := by
  obtain ⟨ds, rfl, hl, hx⟩ := out_all h
  suffices main : ∀ (ds : List PyData) (k : Nat), (∀ (i : Nat) x, ds[i]? = some x → ∃ z, x = .int z ∧ φ (k + i) z) → ∃ ns : List Int, ds = ns.map .int ∧ ∀ z ∈ ns, ∃ i, i < ds.length ∧ φ (k + i) z by
    obtain ⟨ns, rfl, h2⟩ := main ds 0 (fun i x hi => by rw [Nat.zero_add]; exact hx i x hi)
    rw [List.length_map] at hl
    subst hl
    exact ⟨ns, rfl, rfl, fun z hz => by obtain ⟨i, a, b⟩ := h2 z hz; rw [List.length_map] at a; rw [Nat.zero_add] at b; exact ⟨i, a, b⟩⟩
  intro ds
  induction ds with
  | nil => intro k _; exact ⟨[], rfl, fun z hz => nomatch hz⟩
  | cons x r ih =>
    intro k h
    obtain ⟨z, rfl, hz⟩ := h 0 x rfl
    obtain ⟨ns, rfl, h2⟩ := ih (k + 1) (fun i y hi => by have := h (i + 1) y (by simpa using hi); rwa [show k + (i + 1) = k + 1 + i by omega] at this)
    refine ⟨z :: ns, rfl, fun y hy => ?_⟩
    rcases List.mem_cons.mp hy with rfl | hy
    · exact ⟨0, by simp, hz⟩
    · obtain ⟨i, a, b⟩ := h2 y hy
      exact ⟨i + 1, by simpa using a, by rwa [show k + (i + 1) = k + 1 + i by omega]⟩
theorem rd__law_pool {K : PySem.W.Frag} (vs : List V) (H : Hp) (Q : VK) (E : XK) (h : sp__law_pool K vs H Q E) : r__law_pool K { nx := fun _ H' => Q .non H', rt := Q } (start ["_law_row", "_law_begin", "_law_letters", "_law_marks", "_law_k"] vs) H := by
  obtain ⟨ar, as, sc, rfl, ok, k⟩ := h
  have nk : Nk (Rr K ar as sc) (Dom H) H := Nk.dom ok
  have draw : ∀ (i : Nat) (σ : L2.St) (m : Int) (H2 : Hp), σ[i]? = some (some (.ref ar)) → 0 < m → m < 1000000000 → EvZ (Rr K ar as sc) (tCall (sp__law_taken K) [] E0 (tCons (tVar i) (tCons (tC (.int m)) tNil))) σ H2 (fun z => 0 ≤ z ∧ z < m) :=
    fun i σ m H2 hσ h0 h1 => z_draw (N := Dom H) hσ e_int h0 h1
  refine q_asgZ (draw 0 _ 700 H rfl (by decide) (by decide)) ok fun b H1 e1 hb => ?_
  -- the letters
  refine q_asgP (N := Dom H) (φp := fun d => ∃ n : Int, (2 ≤ n ∧ n ≤ 90) ∧ Out n.toNat (fun i o => o = some (PyData.int (b + i))) d) ?_ e1.ok fun dl vl H2 e2 ol rl => ?_
  · refine p_lcZ (φ := fun n => 2 ≤ n ∧ n ≤ 90) (fun n i o => o = some (PyData.int (b + i))) ?_ (fun n q => by omega) (nk.le e1) (fun _ => rfl) (fun n i D H2 _ hD e2 nk2 hi => f_some (e_add (e_vi rfl) (e_vi rfl)))
    refine z_add (φ := fun z => z = 2) (ψ := fun z => 0 ≤ z ∧ z ≤ 88) (z_of (N := Dom H) e_int rfl) ?_ (fun i j p q => by omega)
    refine z_pick2 ((draw 0 _ 6 H1 rfl (by decide) (by decide)).imp fun z q => by omega) ((draw 0 _ 89 H1 rfl (by decide) (by decide)).imp fun z q => by omega) ?_
    refine z_div (N := Dom H) (φ := fun z => 0 ≤ z ∧ z < 6) (draw 0 _ 6 H1 rfl (by decide) (by decide)) e_int ⟨by decide, by decide⟩ fun i hi => ?_
    rw [Int.fdiv_eq_ediv_of_nonneg _ (by decide)]
    omega
  obtain ⟨n, hn, ol⟩ := ol
  have el : dl = .list (((List.range n.toNat).map fun i : Nat => b + (i : Int)).map PyData.int) := by
    have q := out_det (f := fun _ => true) (g := fun i => PyData.int (b + (i : Int))) (n := n.toNat) (d := dl) ol
    rw [q, List.filter_eq_self.mpr (fun _ _ => rfl), List.map_map]
    rfl
  subst el
  -- the marks
  refine q_asgP (N := Dom H) (φp := fun d => ∃ ms : List Int, d = .list (ms.map PyData.int) ∧ ms.length = 3 ∧ ∀ z ∈ ms, 800 ≤ z ∧ z < 993) ?_ e2.ok fun dm vm H3 e3 om rm => ?_
  · refine (p_lcR (n := 3) (fun i o => ∃ x, o = some x ∧ ∃ z, x = PyData.int z ∧ 800 ≤ z ∧ z < 993) (fun H1 e Q q => q H1 (Le.refl e.ok)) (by decide) (nk.le (e1.trans e2)) (fun _ => rfl) (fun i D H3 hD e3 nk3 hi => f_all (EvZ.p ?_))).imp fun d o => ?_
    · refine z_add (φ := fun z => 800 ≤ z ∧ z < 990) (ψ := fun z => z = (i : Int)) (z_add (φ := fun z => z = 800) (z_of (N := Dom H) e_int rfl) (draw 0 _ 190 H3 rfl (by decide) (by decide)) fun i j p q => by omega) (z_of (N := Dom H) (e_vi rfl) rfl) fun x y p q => by omega
    · obtain ⟨ms, rfl, lm, hm⟩ := ints_all (φ := fun _ z => 800 ≤ z ∧ z < 993) o
      exact ⟨ms, rfl, lm, fun z hz => by obtain ⟨i, _, q⟩ := hm z hz; exact q⟩
  obtain ⟨ms, rfl, lm, hm⟩ := om
  -- the bounds, now and then; behind it
  have fin : ∀ (ls ms : List Int) (vl vm : V) (H4 : Hp) (x : Option V), Le (Rr K ar as sc) H H4 → Dt (Dom H) H4 (.list (ls.map PyData.int)) vl → Dt (Dom H) H4 (.list (ms.map PyData.int)) vm → 0 < ls.length → ls.length ≤ 92 → 0 < ms.length → ms.length ≤ 5 →
      (∀ z ∈ ls, 0 ≤ z ∧ z < 800) → (∀ z ∈ ms, 800 ≤ z ∧ z < 1000) → tRet (tTup (tCons (tSortedSet K (tVar 2)) (tCons (tSortedSet K (tVar 3)) tNil))) { nx := fun _ H' => Q .non H', rt := Q } [some (.ref ar), some (.int b), some vl, some vm, x] H4 := by
    intro ls ms vl vm H4 x e4 rl rm l0 l1 m0 m1 lb mb
    have a1 : EvP (Rr K ar as sc) (tSortedSet K (tVar 2)) [some (.ref ar), some (.int b), some vl, some vm, x] H4 (Dom H) _ := p_sset (e_var rfl rl nk.sub) (by omega) (nk.le e4)
    have a2 : EvP (Rr K ar as sc) (tSortedSet K (tVar 3)) [some (.ref ar), some (.int b), some vl, some vm, x] H4 (Dom H) _ := p_sset (e_var rfl rm nk.sub) (by omega) (nk.le e4)
    refine s_retP (p_tup2 a1 a2 nk.sub) e4.ok fun d v H5 e5 o r => ?_
    obtain ⟨_, _, rfl, ⟨ls', rfl, p1, p2⟩, ⟨ms', rfl, p3, p4⟩⟩ := o
    exact k ls' ms' _ _ (pool_ok p1 p2 p3 p4 l0 l1 m0 m1 lb mb) (e4.trans e5) r
  have rl3 := rl.le e3 nk.sub
  have e13 := (e1.trans e2).trans e3
  have lb : ∀ z ∈ (List.range n.toNat).map (fun i : Nat => b + (i : Int)), 0 ≤ z ∧ z < 800 := fun z hz => by
    obtain ⟨i, hi, rfl⟩ := List.mem_map.mp hz
    have := List.mem_range.mp hi
    omega
  have ln : ((List.range n.toNat).map (fun i : Nat => b + (i : Int))).length = n.toNat := by rw [List.length_map, List.length_range]
  refine q_ifP (t_eqZ (N := Dom H) (draw 0 _ 6 H3 rfl (by decide) (by decide)) e_int) e3.ok (fun _ H4 e4 => ?_) (fun _ H4 e4 => ?_)
  · have two : ∀ (a b : Int), ([PyData.int a, PyData.int b] : List PyData) = [a, b].map PyData.int := fun _ _ => rfl
    refine q_asg (N := Dom H) (e_addl (e_var rfl (rl3.le e4 nk.sub) nk.sub) (e_lst (a_cons e_int (a_one e_int) nk.sub) (nk.le (e13.trans e4)) (by decide)) (by rw [List.length_map, ln]; show n.toNat + 2 ≤ 100000; omega) (nk.le (e13.trans e4))) e4.ok fun v5 H5 e5 r5 => ?_
    refine s_asg (N := Dom H) (e_addl (e_var rfl ((rm.le e4 nk.sub).le e5 nk.sub) nk.sub) (e_lst (a_cons e_int (a_one e_int) nk.sub) (nk.le ((e13.trans e4).trans e5)) (by decide)) (by rw [List.length_map, lm]; decide) (nk.le ((e13.trans e4).trans e5))) e5.ok fun v6 H6 e6 r6 => ?_
    rw [two, ← List.map_append] at r5 r6
    refine fin _ _ v5 v6 H6 _ (((e13.trans e4).trans e5).trans e6) (r5.le e6 nk.sub) r6 ?_ ?_ ?_ ?_ (fun z hz => ?_) (fun z hz => ?_)
    · rw [List.length_append]; simp
    · rw [List.length_append, ln]; simp; omega
    · rw [List.length_append]; simp
    · rw [List.length_append, lm]; decide
    · rcases List.mem_append.mp hz with q | q
      · exact lb z q
      · simp at q; omega
    · rcases List.mem_append.mp hz with q | q
      · have := hm z q; omega
      · simp at q; omega
  · exact fin _ _ vl vm H4 _ (e13.trans e4) (rl3.le e4 nk.sub) (rm.le e4 nk.sub) (by omega) (by omega) (by omega) (by omega) lb (fun z hz => by have := hm z hz; omega)
end
end FF
set_option Elab.async false
set_option linter.all false
set_option maxRecDepth 100000
set_option maxHeartbeats 2000000
/-! isinstance; the laws' comparison of data, kind by kind -/
namespace FF
open PySem PySem.Spec PyProof.Rows L2
open Evl (Ex fresh_back)
abbrev rIsiU (K : PySem.W.Frag) := rIsi K
abbrev rIsiTU (K : PySem.W.Frag) := rIsiT K
theorem call_isiU {X : Cx} : CallR X (.builtin "isinstance") (rIsiU X.K) := call_isi
theorem call_isiTU {X : Cx} : CallR X (.builtin "isinstance") (rIsiTU X.K) := call_isiT
/-- the name of a datum's type -/
def tyD : PyData → String
  | .none => "NoneType"
  | .bool _ => "bool"
  | .int _ => "int"
  | .str _ => "str"
  | .list _ => "list"
  | .tuple _ => "tuple"
  | .dict _ => "dict"
section
variable {R : Rg} {K : PySem.W.Frag} {σ : L2.St} {H H' : Hp} {N N' : Addr → Prop} {ta tb tc te ti : TE} {t u : TT} {d : PyData} {φ ψ χ : Int → Prop} {ar as : Addr} {sc : List Int}
theorem Dt.ty {v : V} (h : Dt N H d v) : TyX K H v (.type (tyD d)) := by
  cases h with
  | non => exact .base .non
  | bl b => exact .base (.bl b)
  | int i => exact .base (.int i)
  | str s => exact .base (.str s)
  | lst n h r => exact .base (.lst h)
  | tup h r => exact .base (.tup h)
theorem e_isi {T s : String} {b : Bool} (h : Ev R te σ H N d) (ht : tyD d = s := by rfl) (hk : kitB s T = some b := by decide +kernel) : Ev R (tCB (rIsi K) (tCons te (tCons (tC (.ty T)) tNil))) σ H N (.bool b) := fun H1 e Q q =>
  h H1 e _ fun v H2 e2 r => ⟨v, .ty T, _, _, b, rfl, .ty T, r.ty, kit_ty (by rw [ht]; exact hk), q _ H2 e2 (.bl b)⟩
theorem e_isi2 {T U : String} {b : Bool} (h : Ev R te σ H N d) (hk : PySem.W.kitAny K (.type (tyD d)) [.type T, .type U] = some b) : Ev R (tCB (rIsiT K) (tCons te (tCons (tTup (tCons (tC (.ty T)) (tCons (tC (.ty U)) tNil))) tNil))) σ H N (.bool b) := fun H1 e Q q =>
  h H1 e _ fun v H2 e2 r => ⟨by show 2 ≤ sizeLine; decide, fun p hp => by
    have l3 : Le R H2 (upd H2 p (.tup [.ty T, .ty U])) := Le.new hp e2.ok
    have r3 : Dt No (upd H2 p (.tup [.ty T, .ty U])) d v := r.no.ex (Ex.new hp)
    exact ⟨v, p, _, _, [.type T, .type U], b, rfl, upd_same, .cons (.ty T) (.cons (.ty U) .nil), r3.ty, hk, q _ _ (e2.trans l3) (.bl b)⟩⟩
/-- a call by its promise -/
theorem e_call {sp : Sp} {ta : TA} {ds : List PyData} {z : PyData} (h : EvA R ta σ H N ds) (hs : ∀ H1 vs, Le R H H1 → DtA N H1 ds vs → ∀ Q : VK, (∀ w H2, Le R H1 H2 → Dt N' H2 z w → Q w H2) → sp vs H1 Q E0) : Ev R (tCall sp [] E0 ta) σ H N' z := fun H1 e Q q =>
  h H1 e _ fun vs H2 e2 r => by
    show sp (vs ++ []) H2 Q E0
    rw [List.append_nil]
    exact hs H2 vs (e.trans e2) r Q fun w H3 e3 rw => q w H3 (e2.trans e3) rw
/-- any target: the list is walked, an item puts the slots in order -/
theorem p_lcG {tl : TE} {g : TG} {vs : List Nat} {ds : List PyData} (T : Nat → Option PyData → Prop) {N0 : Addr → Prop} (h : Ev R tl σ H N0 (.list ds)) (s0 : ∀ a, R.W a → N0 a) (hz : ds.length ≤ 40000) (nk : Nk R N H)
    (ht : ∀ (i : Nat) (x : PyData) (v : V) D H1, H D = none → Le R H H1 → Nk R (fun a => a = D ∨ N a) H1 → ds[i]? = some x → Dt (fun a => a = D ∨ N0 a) H1 x v →
      ∃ σ2, (∀ Qs : L2.St → Hp → Prop, Qs σ2 H1 → g v (wipe σ vs) H1 Qs) ∧ wipe σ2 vs = wipe σ vs ∧ EvF R t te σ2 H1 (fun a => a = D ∨ N a) (T i)) :
    EvP R (tLc (iList K tl) g t te vs) σ H N (Out ds.length T) := fun H0 e Q q => h H0 e _ fun v H1 e1 r => by
  obtain ⟨a, xs, rfl, na, hl, ra⟩ := r.listy
  refine ⟨a, rfl, ⟨xs, SqL.of hl⟩, fun D hD => ?_⟩
  have e01 := e.trans e1
  have naW : ¬ R.W a := fun w => na (s0 a w)
  refine lc_list (xs := xs) (Lw R H1 N T D) (lw_start e1.ok hD) (fun i H' _ p => SqL.of (p.1.ext a _ naW hl)) (fun i x H' hi p => ?_) (fun H' p => ?_)
  · have p' := p
    obtain ⟨le', os, vs', _, _, h1, _⟩ := p'
    obtain ⟨dx, hdx, rx⟩ := ra.getV hi
    have hib := (List.getElem?_eq_some_iff.mp hdx).1
    obtain ⟨σ2, hg, hw, hF⟩ := ht i dx x D H' (e01.back D hD) (e01.trans le') (nk_more (nk.le e01) le' h1) hdx ((rx.more hD).le le' fun b w => .inr (s0 b w))
    exact hg _ ⟨hw, lw_turn (nk.le e01) hD p (by omega) hF⟩
  · rw [ra.length] at p
    obtain ⟨d, o, le', r⟩ := lw_end (nk.le e01) hD p
    exact q d _ H' (e1.trans le') o r
theorem out_none {n : Nat} (h : Out n (fun _ o => o = none) d) : d = .list [] := by
  obtain ⟨os, hl, hT, rfl⟩ := h
  congr 1
  clear hl
  induction os with
  | nil => rfl
  | cons o r ih =>
    have h0 := hT 0 o rfl
    subst h0
    simpa using ih fun k o h => hT (k + 1) o (by simpa using h)
end

/-! ### data of a bounded depth -/
def okD : Nat → PyData → Prop
  | _, .none => True
  | _, .bool _ => True
  | _, .int _ => True
  | _, .str s => PyData.strOk s = true
  | n + 1, .list ds => ds.length ≤ 40000 ∧ ∀ x ∈ ds, okD n x
  | n + 1, .tuple ds => ds.length ≤ 40000 ∧ ∀ x ∈ ds, okD n x
  | _, _ => False
theorem eqv_int (i j : Int) : PyData.eqv (.int i) (.int j) = decide (i = j) := by
  rw [PyData.eqv, Bool.eq_iff_iff]; simp
theorem eqv_bool (i j : Bool) : PyData.eqv (.bool i) (.bool j) = decide (i = j) := by
  rw [PyData.eqv, Bool.eq_iff_iff]; simp
theorem eqv_str (i j : Str) : PyData.eqv (.str i) (.str j) = decide (i = j) := by
  rw [PyData.eqv, Bool.eq_iff_iff]; simp
theorem shaped_int (i : Int) : SeqAt.shaped (.int i) = true := by rfl
theorem shaped_bool (i : Bool) : SeqAt.shaped (.bool i) = true := by rfl
theorem shaped_str {i : Str} (h : PyData.strOk i = true) : SeqAt.shaped (.str i) = true := by simp [SeqAt.shaped, PyData.canLay0, PyData.depth, h]
theorem shaped_nil : SeqAt.shaped (.list []) = true := by decide +kernel
theorem eqv_nil : PyData.eqv (.list []) (.list []) = true := by decide +kernel
/-- alike: of the same datum it says True -/
def spA (n : Nat) (K : PySem.W.Frag) : Sp := fun vs H Q _ => ∃ (v1 v2 : V) (d : PyData), vs = [v1, v2] ∧ Dt No H d v1 ∧ Dt No H d v2 ∧ okD n d ∧ ∀ H', Ex H H' → Q (.bl true) H'
/-- slots ['_law_found', '_law_due', '_law_k'] -/
abbrev r__law_alike (sp : Sp) (K : PySem.W.Frag) : TS :=
    (tSeq (tIfS (tOr (tTru K (tCB (rIsiU K) (tCons (tVar 1) (tCons (tC (.ty "tuple")) tNil)))) (tTru K (tCB (rIsiU K) (tCons (tVar 1) (tCons (tC (.ty "list")) tNil))))) (tSeq (tIfS (tOr (tTest (tOp (rNeD K) (tCB (rIsiU K) (tCons (tVar 0) (tCons (tC (.ty "tuple")) tNil))) (tCB (rIsiU K) (tCons (tVar 1) (tCons (tC (.ty "tuple")) tNil))))) (tNot (tTru K (tCB (rIsiTU K) (tCons (tVar 0) (tCons (tTup (tCons (tC (.ty "tuple")) (tCons (tC (.ty "list")) tNil))) tNil)))))) (tRet (tC (.bl false))) tNext)
    (tSeq (tIfS (tTest (tOp (rNeD K) (tCB (rLenU K) (tCons (tVar 0) tNil)) (tCB (rLenU K) (tCons (tVar 1) tNil)))) (tRet (tC (.bl false))) tNext)
    (tRet (tOp (rEqD K) (tLc (iRng1 (tCons (tCB (rLenU K) (tCons (tVar 1) tNil)) tNil)) (gName 2) (tNot (tTru K (tCall sp [] E0 (tCons (tOp (rIx K) (tVar 0) (tVar 2)) (tCons (tOp (rIx K) (tVar 1) (tVar 2)) tNil))))) (tVar 2) [2]) (tLst tNil))))) tNext)
    (tSeq (tIfS (tOr (tTest (tOp (rIsN false) (tVar 1) (tC .non))) (tTest (tOp (rIsN false) (tVar 0) (tC .non)))) (tRet (tAndV (tOp (rIsN false) (tVar 1) (tC .non)) (tOp (rIsN false) (tVar 0) (tC .non)))) tNext)
    (tSeq (tIfS (tOr (tTru K (tCB (rIsiU K) (tCons (tVar 1) (tCons (tC (.ty "bool")) tNil)))) (tTru K (tCB (rIsiU K) (tCons (tVar 0) (tCons (tC (.ty "bool")) tNil))))) (tRet (tAndV (tCB (rIsiU K) (tCons (tVar 1) (tCons (tC (.ty "bool")) tNil))) (tAndV (tCB (rIsiU K) (tCons (tVar 0) (tCons (tC (.ty "bool")) tNil))) (tOp (rEqD K) (tVar 0) (tVar 1))))) tNext)
    (tSeq (tIfS (tTru K (tCB (rIsiU K) (tCons (tVar 1) (tCons (tC (.ty "str")) tNil)))) (tRet (tAndV (tCB (rIsiU K) (tCons (tVar 0) (tCons (tC (.ty "str")) tNil))) (tOp (rEqD K) (tVar 0) (tVar 1)))) tNext)
    (tRet (tAndV (tCB (rIsiU K) (tCons (tVar 0) (tCons (tC (.ty "int")) tNil))) (tOp (rEqD K) (tVar 0) (tVar 1))))))))
theorem rd__law_alike {K : PySem.W.Frag} (n : Nat) (sp : Sp) (hsp : ∀ m, n = m + 1 → sp = spA m K) (vs : List V) (H : Hp) (Q : VK) (E : XK) (h : spA n K vs H Q E) : r__law_alike sp K { nx := fun _ H' => Q .non H', rt := Q } (start ["_law_found", "_law_due", "_law_k"] vs) H := by
  obtain ⟨v1, v2, d, rfl, h1, h2, hd, k⟩ := h
  have ok : R0.I H := trivial
  have nk : Nk R0 No H := nk0
  have x0 : Ev R0 (tVar 0) [some v1, some v2, none] H No d := e_var rfl h1 nk.sub
  have x1 : Ev R0 (tVar 1) [some v1, some v2, none] H No d := e_var rfl h2 nk.sub
  have fin : ∀ (H1 H2 : Hp) (v : V), Le R0 H H1 → Le R0 H1 H2 → Dt No H2 (.bool true) v → Q v H2 := fun H1 H2 v a b r => by
    cases r
    exact k H2 (a.trans b).ex
  -- behind the lengths: no place differs
  have tail : ∀ (m : Nat) (ds : List PyData) (d : PyData) (H3 : Hp), Le R0 H H3 → n = m + 1 → ds.length ≤ 40000 → (∀ x ∈ ds, okD m x) →
      (∀ (D : Addr) (H4 : Hp), H3 D = none → Le R0 H3 H4 → ∀ (i : Nat) x, ds[i]? = some x → Ev R0 (tOp (rIx K) (tVar 0) (tVar 2)) [some v1, some v2, some (.int (i : Int))] H4 (fun a => a = D ∨ No a) x) →
      (∀ (D : Addr) (H4 : Hp), H3 D = none → Le R0 H3 H4 → ∀ (i : Nat) x, ds[i]? = some x → Ev R0 (tOp (rIx K) (tVar 1) (tVar 2)) [some v1, some v2, some (.int (i : Int))] H4 (fun a => a = D ∨ No a) x) →
      Ev R0 (tCB (rLenU K) (tCons (tVar 1) tNil)) [some v1, some v2, none] H3 No (.int (ds.length : Int)) →
      tRet (tOp (rEqD K) (tLc (iRng1 (tCons (tCB (rLenU K) (tCons (tVar 1) tNil)) tNil)) (gName 2) (tNot (tTru K (tCall sp [] E0 (tCons (tOp (rIx K) (tVar 0) (tVar 2)) (tCons (tOp (rIx K) (tVar 1) (tVar 2)) tNil))))) (tVar 2) [2]) (tLst tNil))
        { nx := fun _ H' => Q .non H', rt := Q } [some v1, some v2, none] H3 := by
    intro m ds d H3 e3 hn hz hall g0 g1 hl
    have esp := hsp m hn
    subst esp
    have hc : Ev R0 (tLc (iRng1 (tCons (tCB (rLenU K) (tCons (tVar 1) tNil)) tNil)) (gName 2) (tNot (tTru K (tCall (spA m K) [] E0 (tCons (tOp (rIx K) (tVar 0) (tVar 2)) (tCons (tOp (rIx K) (tVar 1) (tVar 2)) tNil))))) (tVar 2) [2]) [some v1, some v2, none] H3 No (.list []) := by
      refine EvP.ev ((p_lcR (n := (ds.length : Int)) (fun _ o => o = none) (fun H1 e Q q => hl H1 e _ fun v H2 e2 r => by cases r; exact q H2 e2) (by omega) nk0 (fun _ => rfl) fun i D H4 hD e4 nk4 hi => ?_).imp fun d o => out_none o)
      obtain ⟨x, hx⟩ : ∃ x, ds[i]? = some x := ⟨_, List.getElem?_eq_getElem (by omega)⟩
      refine fun H5 e5 Qn Qs qn qs => ?_
      refine f_det (b := false) (N := fun a => a = D ∨ No a) (d := .none) (t_not (a := true) (t_trub (e_call (N' := No) (a_cons (g0 D H4 hD e4 i x hx) (a_one (g1 D H4 hD e4 i x hx)) (fun _ z => z.elim)) fun H6 vs e6 r Q q => ?_))) (fun z => nomatch z) H5 e5 Qn Qs (fun H2 e2 _ => qn H2 e2 rfl) (fun d v H2 e2 z => nomatch z)
      cases r with
      | cons r1 r2 =>
        cases r2 with
        | cons r2 r3 =>
          cases r3
          exact ⟨_, _, x, rfl, r1.no, r2.no, hall x (List.mem_of_getElem? hx), fun H' e' => q _ H' (Le.of_ex e' trivial) (.bl true)⟩
    refine s_ret (e_eq hc (e_lst a_nil nk0 (by decide)) nk.sub shaped_nil shaped_nil) trivial fun v H4 e4 r => ?_
    rw [eqv_nil] at r
    exact fin _ _ v e3 e4 r
  cases d with
  | none =>
    refine q_no (t_or (a := false) (b := false) (t_trub (e_isi (s := "NoneType") x1)) fun _ => t_trub (e_isi (s := "NoneType") x1)) ok fun H1 e1 => ?_
    refine q_yes (t_or (a := true) (b := true) (t_cmp (e_isNo (x1.le e1))) fun z => nomatch z) e1.ok (fun H2 e2 => ?_)
    exact s_ret (e_andV (a := true) (b := true) (e_isNo (x1.le (e1.trans e2))) fun _ => e_isNo (x0.le (e1.trans e2))) e2.ok fun v H3 e3 r => fin _ H3 v (e1.trans e2) e3 r
  | bool c =>
    refine q_no (t_or (a := false) (b := false) (t_trub (e_isi (s := "bool") x1)) fun _ => t_trub (e_isi (s := "bool") x1)) ok fun H1 e1 => ?_
    refine q_no (t_or (a := false) (b := false) (t_cmp (e_isNo (x1.le e1))) fun _ => t_cmp (e_isNo (x0.le e1))) e1.ok (fun H2 e2 => ?_)
    refine q_yes (t_or (a := true) (b := true) (t_trub (e_isi (s := "bool") (x1.le (e1.trans e2)))) fun z => nomatch z) e2.ok (fun H3 e3 => ?_)
    have e13 := (e1.trans e2).trans e3
    refine s_ret (e_andV (a := true) (b := true) (e_isi (s := "bool") (x1.le e13)) fun _ => e_andV (a := true) (b := true) (e_isi (s := "bool") (x0.le e13)) fun _ => (e_eq (x0.le e13) (x1.le e13) nk.sub (shaped_bool c) (shaped_bool c)).is ?_) e3.ok fun v H4 e4 r => fin _ H4 v e13 e4 r
    rw [eqv_bool, decide_eq_true rfl]
  | int i =>
    refine q_no (t_or (a := false) (b := false) (t_trub (e_isi (s := "int") x1)) fun _ => t_trub (e_isi (s := "int") x1)) ok fun H1 e1 => ?_
    refine q_no (t_or (a := false) (b := false) (t_cmp (e_isNo (x1.le e1))) fun _ => t_cmp (e_isNo (x0.le e1))) e1.ok (fun H2 e2 => ?_)
    refine q_no (t_or (a := false) (b := false) (t_trub (e_isi (s := "int") (x1.le (e1.trans e2)))) fun _ => t_trub (e_isi (s := "int") (x0.le (e1.trans e2)))) e2.ok (fun H3 e3 => ?_)
    have e13 := (e1.trans e2).trans e3
    refine q_no (t_trub (e_isi (s := "int") (x1.le e13))) e3.ok (fun H4 e4 => ?_)
    have e14 := e13.trans e4
    refine s_ret (e_andV (a := true) (b := true) (e_isi (s := "int") (x0.le e14)) fun _ => (e_eq (x0.le e14) (x1.le e14) nk.sub (shaped_int i) (shaped_int i)).is ?_) e4.ok fun v H5 e5 r => fin _ H5 v e14 e5 r
    rw [eqv_int, decide_eq_true rfl]
  | str i =>
    refine q_no (t_or (a := false) (b := false) (t_trub (e_isi (s := "str") x1)) fun _ => t_trub (e_isi (s := "str") x1)) ok fun H1 e1 => ?_
    refine q_no (t_or (a := false) (b := false) (t_cmp (e_isNo (x1.le e1))) fun _ => t_cmp (e_isNo (x0.le e1))) e1.ok (fun H2 e2 => ?_)
    refine q_no (t_or (a := false) (b := false) (t_trub (e_isi (s := "str") (x1.le (e1.trans e2)))) fun _ => t_trub (e_isi (s := "str") (x0.le (e1.trans e2)))) e2.ok (fun H3 e3 => ?_)
    have e13 := (e1.trans e2).trans e3
    refine q_yes (t_trub (e_isi (s := "str") (x1.le e13))) e3.ok (fun H4 e4 => ?_)
    have e14 := e13.trans e4
    have hs : PyData.strOk i = true := by cases n <;> exact hd
    refine s_ret (e_andV (a := true) (b := true) (e_isi (s := "str") (x0.le e14)) fun _ => (e_eq (x0.le e14) (x1.le e14) nk.sub (shaped_str hs) (shaped_str hs)).is ?_) e4.ok fun v H5 e5 r => fin _ H5 v e14 e5 r
    rw [eqv_str, decide_eq_true rfl]
  | dict kvs => cases h1
  | list ds =>
    cases n with
    | zero => exact hd.elim
    | succ m =>
    obtain ⟨hz, hall⟩ := hd
    refine q_yes (t_or (a := false) (b := true) (t_trub (e_isi (s := "list") x1)) fun _ => t_trub (e_isi (s := "list") x1)) ok fun H1 e1 => ?_
    refine q_no (t_or (a := false) (b := false) (t_cmp ((e_ne (e_isi (s := "list") (b := false) (x0.le e1)) (e_isi (s := "list") (b := false) (x1.le e1)) nk.sub (shaped_bool _) (shaped_bool _)).is (by rw [eqv_bool] <;> rfl))) fun _ => t_not (a := true) (t_trub (e_isi2 (x0.le e1) (kitAny_cons (b := false) (kit_ty (show kitB "list" "tuple" = _ from by decide +kernel)) (fun _ => kitAny_cons (b := true) (kit_ty (show kitB "list" "list" = _ from by decide +kernel)) (fun z => nomatch z) fun _ => rfl) (fun z => nomatch z))))) e1.ok (fun H2 e2 => ?_)
    have e12 := e1.trans e2
    refine q_no (t_cmp ((e_ne (e_lenl (x0.le e12)) (e_lenl (x1.le e12)) nk.sub (shaped_int _) (shaped_int _)).is (by rw [eqv_int, decide_eq_true rfl] <;> rfl))) e2.ok (fun H3 e3 => ?_)
    have e13 := e12.trans e3
    refine tail m ds (.list ds) H3 e13 rfl hz hall (fun D H4 hD e4 i x hx => ?_) (fun D H4 hD e4 i x hx => ?_) (e_lenl (x1.le e13))
    · exact e_ixl (e_var rfl (((h1.le e13 nk.sub).more hD).le e4 (fun _ z => z.elim)) (fun _ z => z.elim)) (e_vi rfl) (fun _ z => z.elim) (atI_nat hx)
    · exact e_ixl (e_var rfl (((h2.le e13 nk.sub).more hD).le e4 (fun _ z => z.elim)) (fun _ z => z.elim)) (e_vi rfl) (fun _ z => z.elim) (atI_nat hx)
  | tuple ds =>
    cases n with
    | zero => exact hd.elim
    | succ m =>
    obtain ⟨hz, hall⟩ := hd
    refine q_yes (t_or (a := true) (b := true) (t_trub (e_isi (s := "tuple") x1)) fun z => nomatch z) ok fun H1 e1 => ?_
    refine q_no (t_or (a := false) (b := false) (t_cmp ((e_ne (e_isi (s := "tuple") (b := true) (x0.le e1)) (e_isi (s := "tuple") (b := true) (x1.le e1)) nk.sub (shaped_bool _) (shaped_bool _)).is (by rw [eqv_bool] <;> rfl))) fun _ => t_not (a := true) (t_trub (e_isi2 (x0.le e1) (kitAny_cons (b := true) (kit_ty (show kitB "tuple" "tuple" = _ from by decide +kernel)) (fun z => nomatch z) fun _ => rfl)))) e1.ok (fun H2 e2 => ?_)
    have e12 := e1.trans e2
    refine q_no (t_cmp ((e_ne (e_lent (x0.le e12)) (e_lent (x1.le e12)) nk.sub (shaped_int _) (shaped_int _)).is (by rw [eqv_int, decide_eq_true rfl] <;> rfl))) e2.ok (fun H3 e3 => ?_)
    have e13 := e12.trans e3
    refine tail m ds (.tuple ds) H3 e13 rfl hz hall (fun D H4 hD e4 i x hx => ?_) (fun D H4 hD e4 i x hx => ?_) (e_lent (x1.le e13))
    · exact e_ixt (e_var rfl (((h1.le e13 nk.sub).more hD).le e4 (fun _ z => z.elim)) (fun _ z => z.elim)) (e_vi rfl) (fun _ z => z.elim) (atI_nat hx)
    · exact e_ixt (e_var rfl (((h2.le e13 nk.sub).more hD).le e4 (fun _ z => z.elim)) (fun _ z => z.elim)) (e_vi rfl) (fun _ z => z.elim) (atI_nat hx)
end FF
set_option Elab.async false
set_option linter.all false
set_option maxRecDepth 100000
set_option maxHeartbeats 2000000
/-! the laws' clusters, choices -/
namespace FF
open PySem PySem.Spec PyProof.Rows L2
open Evl (Ex fresh_back)
section
variable {R : Rg} {K : PySem.W.Frag} {σ : L2.St} {H H' : Hp} {N N' : Addr → Prop} {ta tb tc te ti : TE} {t u : TT} {d : PyData}
theorem e_eqi {i j : Int} (ha : Ev R ta σ H N (.int i)) (hb : Ev R tb σ H N (.int j)) (hW : ∀ a, R.W a → N a) : Ev R (tOp (rEqD K) ta tb) σ H N (.bool (decide (i = j))) := (e_eq ha hb hW (shaped_int i) (shaped_int j)).is (by rw [eqv_int])
theorem e_nei {i j : Int} (ha : Ev R ta σ H N (.int i)) (hb : Ev R tb σ H N (.int j)) (hW : ∀ a, R.W a → N a) : Ev R (tOp (rNeD K) ta tb) σ H N (.bool (!decide (i = j))) := (e_ne ha hb hW (shaped_int i) (shaped_int j)).is (by rw [eqv_int])
theorem atI_ints {t : List Int} {i : Nat} {z : Int} (h : t[i]? = some z) : atI (t.map PyData.int) (i : Int) = some (.int z) := atI_nat (by rw [List.getElem?_map, h]; rfl)
theorem atI_nats {t : List Nat} {i : Nat} {z : Nat} (h : t[i]? = some z) : atI (t.map fun n : Nat => PyData.int (n : Int)) (i : Int) = some (.int (z : Int)) := atI_nat (by rw [List.getElem?_map, h]; rfl)
theorem cutD_drop1 (xs : List PyData) : cutD xs (some 1) none = xs.drop 1 := by
  unfold cutD
  have e : HT.sIx xs.length 0 (some 1) = min 1 xs.length := HT.sIx_nat xs.length 0 1
  rw [e, HT.sIx_none]
  rw [List.take_of_length_le (Nat.le_of_eq (List.length_drop ..))]
  cases xs with
  | nil => rfl
  | cons x r => rw [show min 1 (x :: r).length = 1 by simp]
/-- a slice between two places -/
theorem cutD_mid (xs : List PyData) (a b : Nat) (h : a ≤ b) (hb : b ≤ xs.length) : cutD xs (some (a : Int)) (some (b : Int)) = (xs.drop a).take (b - a) := by
  unfold cutD
  rw [HT.sIx_nat, HT.sIx_nat, Nat.min_eq_left (Nat.le_trans h hb), Nat.min_eq_left hb]
end
/-! ### the mathematics: where clusters begin and end -/
def begs (t : List Int) : List Nat := (List.range t.length).filter fun k => decide (k = 0) || decide (t.getD k 0 < 800)
def ends (t : List Int) : List Nat := (begs t).drop 1 ++ [t.length]
def clusP (t : List Int) : List (Nat × Nat) := (List.range (begs t).length).map fun k => ((begs t).getD k 0, (ends t).getD k 0)
def pairD (p : Nat × Nat) : PyData := .tuple [.int p.1, .int p.2]
theorem begs_le (t : List Int) : (begs t).length ≤ t.length := by
  unfold begs
  have h := List.length_filter_le (fun k => decide (k = 0) || decide (t.getD k 0 < 800)) (List.range t.length)
  rwa [List.length_range] at h
theorem ends_len (t : List Int) (h : t ≠ []) : (ends t).length = (begs t).length := by
  have h0 : 0 < (begs t).length := by
    refine List.length_pos_of_mem (a := 0) ?_
    unfold begs
    refine List.mem_filter.mpr ⟨List.mem_range.mpr (by cases t with | nil => exact absurd rfl h | cons x r => simp), by simp⟩
  unfold ends
  rw [List.length_append, List.length_drop, List.length_singleton]
  omega
theorem begs_nil : begs [] = [] := rfl
def sp__law_clusters (K : PySem.W.Frag) : Sp := fun vs H Q _ => ∃ (v : V) (t : List Int), vs = [v] ∧ Dt No H (.list (t.map .int)) v ∧ t.length ≤ 1000 ∧
  ∀ (v' : V) (H' : Hp), Ex H H' → Dt (Dom H) H' (.list ((clusP t).map pairD)) v' → Q v' H'
/-- slots ['_law_text', '_law_begins', '_law_ends', '_law_k'] -/
abbrev r__law_clusters (K : PySem.W.Frag) : TS :=
    (tSeq (tAsg (tLc (iRng1 (tCons (tCB (rLenU K) (tCons (tVar 0) tNil)) tNil)) (gName 3) (tOr (tTest (tOp (rEqD K) (tVar 3) (tC (.int 0)))) (tTest (tOp (rI0 fun i j => .bl (decide (i < j))) (tOp (rIx K) (tVar 0) (tVar 3)) (tC (.int 800))))) (tVar 3) [3]) (gName 1))
    (tSeq (tAsg (tOp (rAddU K) (tSl (rSlU K) (tVar 1) (tPart (tC (.int 1))) tNoPart) (tLst (tCons (tCB (rLenU K) (tCons (tVar 0) tNil)) tNil))) (gName 2))
    (tRet (tLc (iRng1 (tCons (tCB (rLenU K) (tCons (tVar 1) tNil)) tNil)) (gName 3) tYes (tTup (tCons (tOp (rIx K) (tVar 1) (tVar 3)) (tCons (tOp (rIx K) (tVar 2) (tVar 3)) tNil))) [3]))))
theorem rd__law_clusters {K : PySem.W.Frag} (vs : List V) (H : Hp) (Q : VK) (E : XK) (h : sp__law_clusters K vs H Q E) : r__law_clusters K { nx := fun _ H' => Q .non H', rt := Q } (start ["_law_text", "_law_begins", "_law_ends", "_law_k"] vs) H := by
  obtain ⟨v, t, rfl, h1, hz, k⟩ := h
  have nk : Nk R0 (Dom H) H := ⟨fun _ z => z.elim, (Nk.dom (R := R0) trivial).inn⟩
  have nW : ∀ (N : Addr → Prop) (a : Addr), R0.W a → N a := fun _ _ z => z.elim
  have lt : (t.map PyData.int).length = t.length := List.length_map ..
  -- where they begin
  refine q_asgP (R := R0) (N := Dom H) (φp := fun d => d = .list ((begs t).map fun n : Nat => PyData.int (n : Int))) ?_ trivial fun d1 v1 H1 e1 o1 r1 => ?_
  · have hl : Ev R0 (tCB (rLenU K) (tCons (tVar 0) tNil)) [some v, none, none, none] H No (.int (t.length : Int)) := by
      have q := e_lenl (R := R0) (K := K) (N' := No) (e_var (i := 0) (σ := [some v, none, none, none]) rfl h1 (nW No))
      rwa [lt] at q
    refine (p_lcR (n := (t.length : Int)) (fun i o => o = if (decide (i = 0) || decide (t.getD i 0 < 800)) = true then some (PyData.int (i : Int)) else none) (fun H1 e Q q => hl H1 e _ fun v H2 e2 r => by cases r; exact q H2 e2) (by omega) nk (fun _ => rfl) fun i D H4 hD e4 nk4 hi => ?_).imp fun d o => ?_
    · obtain ⟨z, hx⟩ : ∃ z, t[i]? = some z := ⟨_, List.getElem?_eq_getElem (by omega)⟩
      have hg : t.getD i 0 = z := by rw [List.getD_eq_getElem?_getD, hx]; rfl
      have e0 : decide ((i : Int) = 0) = decide (i = 0) := by by_cases q : i = 0 <;> simp [q]
      refine f_det (b := decide (i = 0) || decide (t.getD i 0 < 800)) (t_or ((t_cmp (e_eqi (N := No) (e_vi rfl) e_int (nW No))).is e0) fun _ => ?_) (fun _ => e_vi rfl)
      rw [hg]
      exact t_cmp (e_IB (N := No) (e_ixl (e_var (N := No) rfl (h1.le e4 (nW No)) (nW No)) (e_vi rfl) (nW No) (atI_ints hx)) e_int)
    · exact out_det (f := fun i => decide (i = 0) || decide (t.getD i 0 < 800)) (g := fun i => PyData.int (i : Int)) o
  subst o1
  have lb : ((begs t).map fun n : Nat => PyData.int (n : Int)).length = (begs t).length := List.length_map ..
  have bl := begs_le t
  -- where they end
  refine q_asg (N := Dom H) (d := .list ((ends t).map fun n : Nat => PyData.int (n : Int))) ?_ e1.ok fun v2 H2 e2 r2 => ?_
  · have hl : Ev R0 (tCB (rLenU K) (tCons (tVar 0) tNil)) [some v, some v1, none, none] H1 (Dom H) (.int (t.length : Int)) := by
      have q := e_lenl (R := R0) (K := K) (N' := Dom H) (e_var (i := 0) (σ := [some v, some v1, none, none]) rfl (h1.le e1 (nW No)) (nW No))
      rwa [lt] at q
    refine (e_addl (e_sll (e_var rfl r1 (nW _)) (o_some e_int) o_none (nk.le e1)) (e_lst (a_one hl) (nk.le e1) (by simp)) ?_ (nk.le e1)).is ?_
    · have q := cutD_len ((begs t).map fun n : Nat => PyData.int (n : Int)) (some 1) none
      rw [lb] at q
      show _ + 1 ≤ 100000
      omega
    · rw [cutD_drop1]
      unfold ends
      rw [List.map_append, List.map_drop]
      rfl
  have e12 := e1.trans e2
  -- the pairs
  have hl : Ev R0 (tCB (rLenU K) (tCons (tVar 1) tNil)) [some v, some v1, some v2, none] H2 No (.int ((begs t).length : Int)) := by
    have q := e_lenl (R := R0) (K := K) (N' := No) (e_var (i := 1) (σ := [some v, some v1, some v2, none]) rfl (r1.le e2 (nW _)) (nW _))
    rwa [lb] at q
  refine s_retP (N := Dom H) (φp := fun d => d = .list ((clusP t).map pairD)) ?_ e2.ok fun d v3 H3 e3 o r3 => ?_
  · refine (p_lcR (n := ((begs t).length : Int)) (fun i o => o = some (pairD ((begs t).getD i 0, (ends t).getD i 0))) (fun H1 e Q q => hl H1 e _ fun v H2 e2 r => by cases r; exact q H2 e2) (by omega) (nk.le e12) (fun _ => rfl) fun i D H4 hD e4 nk4 hi => ?_).imp fun d o => ?_
    · have tne : t ≠ [] := fun z => by subst z; rw [begs_nil] at hi; simp at hi; omega
      have le := ends_len t tne
      obtain ⟨x, hx⟩ : ∃ z, (begs t)[i]? = some z := ⟨_, List.getElem?_eq_getElem (by omega)⟩
      obtain ⟨y, hy⟩ : ∃ z, (ends t)[i]? = some z := ⟨_, List.getElem?_eq_getElem (by omega)⟩
      have gx : (begs t).getD i 0 = x := by rw [List.getD_eq_getElem?_getD, hx]; rfl
      have gy : (ends t).getD i 0 = y := by rw [List.getD_eq_getElem?_getD, hy]; rfl
      rw [gx, gy]
      refine f_some (e_tup (a_cons (e_ixl (e_var rfl (((r1.le e2 (nW _)).more hD).le e4 (nW _)) (nW _)) (e_vi rfl) (nW _) (atI_nats hx)) (a_one (e_ixl (e_var rfl ((r2.more hD).le e4 (nW _)) (nW _)) (e_vi rfl) (nW _) (atI_nats hy))) (nW _)) (nW _) (by simp))
    · have q := out_det (f := fun _ => true) (g := fun i => pairD ((begs t).getD i 0, (ends t).getD i 0)) (n := (begs t).length) (d := d) o
      rw [q, List.filter_eq_self.mpr (fun _ _ => rfl)]
      unfold clusP
      rw [List.map_map]
      rfl
  subst o
  exact k v3 H3 (e12.trans e3).ex r3
end FF
set_option Elab.async false
set_option linter.all false
set_option maxRecDepth 100000
set_option maxHeartbeats 2000000
/-! the faces that have all signs -/
namespace FF
open PySem PySem.Spec PyProof.Rows L2
open Evl (Ex fresh_back)
structure Face where
  name : Str
  rank : Int
  signs : List Int
  deriving DecidableEq
def faceD (f : Face) : PyData := .tuple [.str f.name, .int f.rank, .tuple (f.signs.map .int)]
def facesD (fs : List Face) : PyData := .list (fs.map faceD)
instance : Inhabited Face := ⟨⟨⟨#[]⟩, 0, []⟩⟩
/-- has all of s -/
def hasAll (f : Face) (s : List Int) : Bool := s.all fun z => decide (z ∈ f.signs)
/-- the numbers of the faces that have all of s -/
def havP (fs : List Face) (s : List Int) : List Nat := (List.range fs.length).filter fun k => hasAll (fs.getD k default) s
def natsD (ns : List Nat) : PyData := .list (ns.map fun n : Nat => .int (n : Int))
def cutT (t : List Int) (p : Nat × Nat) : List Int := (t.drop p.1).take (p.2 - p.1)
/-- for each cluster its choices -/
def everyP (fs : List Face) (t : List Int) : List (List Nat) := (clusP t).map fun p => havP fs (cutT t p)
section
variable {R : Rg} {K : PySem.W.Frag} {σ : L2.St} {H H' : Hp} {N N' : Addr → Prop} {ta tb tc te ti : TE} {t u : TT} {d : PyData}
theorem inV_ints (z : Int) (ns : List Int) : inV (.int z) (ns.map V.int) = decide (z ∈ ns) := by
  unfold inV
  rw [List.any_map, Bool.eq_iff_iff, List.any_eq_true, decide_eq_true_iff]
  constructor
  · rintro ⟨x, hx, h⟩
    have e : (x == z) = true := h
    exact (beq_iff_eq.mp e) ▸ hx
  · intro h
    exact ⟨z, h, show (z == z) = true by simp⟩
theorem flat_ints (ns : List Int) : (ns.map V.int).all flatV = true := by
  rw [List.all_map, List.all_eq_true]
  intro x _
  rfl
theorem e_notInT {z : Int} {ns : List Int} (ha : Ev R ta σ H N (.int z)) (hb : Ev R tb σ H N (.tuple (ns.map .int))) : Ev R (tOp (rInU K true) ta tb) σ H N (.bool (!decide (z ∈ ns))) := fun H1 e Q q =>
  ha H1 e _ fun u H2 e2 ru => hb H2 (e.trans e2) _ fun v H3 e3 rv => by
    cases ru
    obtain ⟨p, xs, rfl, hp, ra⟩ := rv.tupy
    have ex := ra.ints
    subst ex
    refine .inl ⟨p, _, rfl, .inr (SqT.of hp), rfl, flat_ints ns, ?_⟩
    show Q (.bl (!inV (.int z) (ns.map V.int))) H3
    rw [inV_ints]
    exact q _ H3 (e2.trans e3) (.bl _)
theorem e_inT {z : Int} {ns : List Int} (ha : Ev R ta σ H N (.int z)) (hb : Ev R tb σ H N (.tuple (ns.map .int))) : Ev R (tOp (rInU K false) ta tb) σ H N (.bool (decide (z ∈ ns))) := fun H1 e Q q =>
  ha H1 e _ fun u H2 e2 ru => hb H2 (e.trans e2) _ fun v H3 e3 rv => by
    cases ru
    obtain ⟨p, xs, rfl, hp, ra⟩ := rv.tupy
    have ex := ra.ints
    subst ex
    refine .inl ⟨p, _, rfl, .inr (SqT.of hp), rfl, flat_ints ns, ?_⟩
    show Q (.bl (inV (.int z) (ns.map V.int))) H3
    rw [inV_ints]
    exact q _ H3 (e2.trans e3) (.bl _)
/-- the items of a list of whole numbers that a test keeps -/
theorem p_keep {tl : TE} {j : Nat} {vs : List Nat} {ns : List Int} (f : Int → Bool) {N0 : Addr → Prop} (h : Ev R tl σ H N0 (.list (ns.map .int))) (s0 : ∀ a, R.W a → N0 a) (hz : ns.length ≤ 40000) (nk : Nk R N H) (hw : ∀ x, wipe ((wipe σ vs).set j (some x)) vs = wipe σ vs)
    (ht : ∀ (z : Int) D H1, H D = none → Le R H H1 → Nk R (fun a => a = D ∨ N a) H1 → z ∈ ns → EvT R t ((wipe σ vs).set j (some (.int z))) H1 (f z)) (he : ∀ (z : Int), ((wipe σ vs).set j (some (.int z)))[j]? = some (some (.int z))) :
    Ev R (tLc (iList K tl) (gName j) t (tVar j) vs) σ H N (.list ((ns.filter f).map .int)) := by
  refine EvP.ev ((p_lcL (fun i o => o = if f (ns.getD i 0) = true then some (PyData.int (ns.getD i 0)) else none) h s0 (by rw [List.length_map]; exact hz) nk hw fun i x v D H1 hD e1 nk1 hx r => ?_).imp fun d o => ?_)
  · rw [List.getElem?_map] at hx
    cases hi : ns[i]? with
    | none => rw [hi] at hx; cases hx
    | some z =>
      rw [hi] at hx
      cases hx
      cases r
      have g : ns.getD i 0 = z := by rw [List.getD_eq_getElem?_getD, hi]; rfl
      rw [g]
      exact f_det (ht z D H1 hD e1 nk1 (List.mem_of_getElem? hi)) (fun _ => e_vi (he z))
  · have q := out_det (f := fun i => f (ns.getD i 0)) (g := fun i => PyData.int (ns.getD i 0)) (n := (ns.map PyData.int).length) o
    rw [q, List.length_map]
    congr 1
    clear q o h hz ht
    have main : ∀ (ms ps : List Int), ((List.range ms.length).map fun i => (ps ++ ms).getD (ps.length + i) 0) = ms := by
      intro ms ps
      refine List.ext_getElem? fun k => ?_
      rw [List.getElem?_map]
      by_cases hk : k < ms.length
      · rw [List.getElem?_range hk, Option.map_some, List.getD_eq_getElem?_getD, List.getElem?_append_right (by omega), Nat.add_sub_cancel_left, List.getElem?_eq_getElem hk]
        rfl
      · rw [List.getElem?_eq_none (by simp; omega), List.getElem?_eq_none (by omega)]
        rfl
    have e : (List.range ns.length).map (fun i => ns.getD i 0) = ns := by simpa using main ns []
    conv => rhs; rw [← e]
    rw [List.filter_map, List.map_map]
    rfl
end
theorem eqv_empty (ns : List Int) : PyData.eqv (.list (ns.map .int)) (.list []) = ns.isEmpty := by
  cases ns with
  | nil => exact eqv_nil
  | cons x r => simp [PyData.eqv, PyData.eqvAll]
theorem ok_lay : ∀ (n : Nat) (d : PyData), okD n d → d.canLay0 = true ∧ d.depth ≤ n := by
  intro n
  induction n with
  | zero =>
    intro d h
    cases d with
    | none => exact ⟨rfl, Nat.le_refl _⟩
    | bool b => exact ⟨rfl, Nat.le_refl _⟩
    | int i => exact ⟨rfl, Nat.le_refl _⟩
    | str x => exact ⟨by rw [PyData.canLay0]; exact h, by simp [PyData.depth]⟩
    | list xs => exact h.elim
    | tuple xs => exact h.elim
    | dict kvs => exact h.elim
  | succ n ih =>
    have all : ∀ xs : List PyData, (∀ x ∈ xs, okD n x) → PyData.canLayAll0 xs = true ∧ PyData.depthAll xs ≤ n := by
      intro xs
      induction xs with
      | nil => intro _; exact ⟨by simp [PyData.canLayAll0], by simp [PyData.depthAll]⟩
      | cons x r ihr =>
        intro h
        obtain ⟨a, b⟩ := ih x (h x List.mem_cons_self)
        obtain ⟨c, d⟩ := ihr fun y hy => h y (List.mem_cons_of_mem _ hy)
        refine ⟨by simp [PyData.canLayAll0, a, c], ?_⟩
        rw [PyData.depthAll]
        omega
    intro d h
    cases d with
    | none => exact ⟨rfl, Nat.zero_le _⟩
    | bool b => exact ⟨rfl, Nat.zero_le _⟩
    | int i => exact ⟨rfl, Nat.zero_le _⟩
    | str x => exact ⟨by rw [PyData.canLay0]; exact h, by simp [PyData.depth]⟩
    | list xs =>
      obtain ⟨a, b⟩ := all xs h.2
      exact ⟨by simpa [PyData.canLay0] using a, by rw [PyData.depth]; omega⟩
    | tuple xs =>
      obtain ⟨a, b⟩ := all xs h.2
      exact ⟨by simpa [PyData.canLay0] using a, by rw [PyData.depth]; omega⟩
    | dict kvs => exact h.elim
theorem ok_shaped {n : Nat} {d : PyData} (h : okD n d) (hn : n ≤ 64) : SeqAt.shaped d = true := by
  obtain ⟨a, b⟩ := ok_lay n d h
  unfold SeqAt.shaped
  rw [a, decide_eq_true (Nat.le_trans b hn)]
  rfl
theorem ok_eqv {n : Nat} {d : PyData} (h : okD n d) : PyData.eqv d d = true := SeqAt.eqv_refl d (ok_lay n d h).1
theorem ok_int (n : Nat) (i : Int) : okD n (.int i) := by cases n <;> trivial
theorem ok_ints {ns : List Int} (h : ns.length ≤ 40000) : okD 1 (.list (ns.map .int)) := ⟨by rw [List.length_map]; exact h, fun x hx => by obtain ⟨z, _, rfl⟩ := List.mem_map.mp hx; exact ok_int _ _⟩
theorem filter_none (s : List Int) (f : Int → Bool) : (s.filter f).isEmpty = s.all fun z => !f z := by
  induction s with
  | nil => rfl
  | cons x r ih =>
    cases h : f x with
    | true => rw [List.filter_cons, if_pos h]; simp [h]
    | false => rw [List.filter_cons, if_neg (by rw [h]; decide), ih]; simp [h]
def sp__law_having (K : PySem.W.Frag) : Sp := fun vs H Q _ => ∃ (v1 v2 : V) (fs : List Face) (s : List Int), vs = [v1, v2] ∧ Dt No H (facesD fs) v1 ∧ Dt No H (.list (s.map .int)) v2 ∧ fs.length ≤ 1000 ∧ s.length ≤ 1000 ∧
  ∀ (v' : V) (H' : Hp), Ex H H' → Dt (Dom H) H' (natsD (havP fs s)) v' → Q v' H'
/-- slots ['_law_faces_here', '_law_signs_here', '_law_k', '_law_sign'] -/
abbrev r__law_having (K : PySem.W.Frag) : TS :=
    (tRet (tLc (iRng1 (tCons (tCB (rLenU K) (tCons (tVar 0) tNil)) tNil)) (gName 2) (tTest (tOp (rEqD K) (tLc (iList K (tVar 1)) (gName 3) (tTest (tOp (rInU K true) (tVar 3) (tOp (rIx K) (tOp (rIx K) (tVar 0) (tVar 2)) (tC (.int 2))))) (tVar 3) [3]) (tLst tNil))) (tVar 2) [2]))
theorem face_at {fs : List Face} {k : Nat} {f : Face} (h : fs[k]? = some f) : atI (fs.map faceD) (k : Int) = some (faceD f) := atI_nat (by rw [List.getElem?_map, h]; rfl)
theorem rd__law_having {K : PySem.W.Frag} (vs : List V) (H : Hp) (Q : VK) (E : XK) (h : sp__law_having K vs H Q E) : r__law_having K { nx := fun _ H' => Q .non H', rt := Q } (start ["_law_faces_here", "_law_signs_here", "_law_k", "_law_sign"] vs) H := by
  obtain ⟨v1, v2, fs, s, rfl, h1, h2, hz1, hz2, k⟩ := h
  have nk : Nk R0 (Dom H) H := ⟨fun _ z => z.elim, (Nk.dom (R := R0) trivial).inn⟩
  have nW : ∀ (N : Addr → Prop) (a : Addr), R0.W a → N a := fun _ _ z => z.elim
  have hl : Ev R0 (tCB (rLenU K) (tCons (tVar 0) tNil)) [some v1, some v2, none, none] H No (.int (fs.length : Int)) := by
    have q := e_lenl (R := R0) (K := K) (N' := No) (e_var (i := 0) (σ := [some v1, some v2, none, none]) rfl h1 (nW No))
    rwa [List.length_map] at q
  refine s_retP (R := R0) (N := Dom H) (φp := fun d => d = natsD (havP fs s)) ?_ trivial fun d v3 H3 e3 o r3 => ?_
  · refine (p_lcR (n := (fs.length : Int)) (fun i o => o = if hasAll (fs.getD i default) s = true then some (PyData.int (i : Int)) else none) (fun H1 e Q q => hl H1 e _ fun v H2 e2 r => by cases r; exact q H2 e2) (by omega) nk (fun _ => rfl) fun i D H4 hD e4 nk4 hi => ?_).imp fun d o => ?_
    · obtain ⟨f, hf⟩ : ∃ z, fs[i]? = some z := ⟨_, List.getElem?_eq_getElem (by omega)⟩
      have g : fs.getD i default = f := by rw [List.getD_eq_getElem?_getD, hf]; rfl
      rw [g]
      refine f_det (N := fun a => a = D ∨ Dom H a) ?_ (fun _ => e_vi rfl)
      have a1 := (h1.more hD).le e4 (nW _)
      have a2 := (h2.more hD).le e4 (nW _)
      have nk4' : Nk R0 (fun a => a = D ∨ No a) H4 := ⟨nW _, fun a z q => nk4.inn a (z.elim .inl fun z => z.elim) q⟩
      refine (t_cmp (e_eq (p_keep (fun z => !decide (z ∈ f.signs)) (e_var (N := fun a => a = D ∨ No a) rfl a2 (nW _)) (nW _) (by omega) nk4' (fun _ => rfl) (fun z D2 H5 hD2 e5 nk5 hz => ?_) (fun z => rfl)) (e_lst a_nil nk4' (by decide)) (nW _) (ok_shaped (ok_ints (Nat.le_trans (List.length_filter_le _ _) (by omega))) (by decide)) shaped_nil)).is ?_
      · refine t_cmp (e_notInT (N := No) (e_vi rfl) (e_ixt (ds := [.str f.name, .int f.rank, .tuple (f.signs.map .int)]) (e_ixl (e_var rfl (a1.no.le e5 (nW _)) (nW _)) (e_vi rfl) (nW _) (face_at hf)) e_int (nW _) rfl))
      · rw [eqv_empty, filter_none]
        unfold hasAll
        congr 1
        funext z
        rw [Bool.not_not]
    · exact out_det (f := fun i => hasAll (fs.getD i default) s) (g := fun i => PyData.int (i : Int)) o
  subst o
  exact k v3 H3 e3.ex r3
def sp__law_every (K : PySem.W.Frag) : Sp := fun vs H Q _ => ∃ (v1 v2 : V) (fs : List Face) (t : List Int), vs = [v1, v2] ∧ Dt No H (facesD fs) v1 ∧ Dt No H (.list (t.map .int)) v2 ∧ fs.length ≤ 1000 ∧ t.length ≤ 1000 ∧
  ∀ (v' : V) (H' : Hp), Ex H H' → Dt (Dom H) H' (.list ((everyP fs t).map natsD)) v' → Q v' H'
/-- slots ['_law_faces_here', '_law_text', '_law_begin', '_law_end'] -/
abbrev r__law_every (K : PySem.W.Frag) : TS :=
    (tRet (tLc (iList K (tCall (sp__law_clusters K) [] E0 (tCons (tVar 1) tNil))) (gTup K 2 (gCons (gName 2) (gCons (gName 3) gNil))) tYes (tCall (sp__law_having K) [] E0 (tCons (tVar 0) (tCons (tSl (rSlU K) (tVar 1) (tPart (tVar 2)) (tPart (tVar 3))) tNil))) [2, 3]))
theorem begs_lt (t : List Int) : ∀ b ∈ begs t, b < t.length := fun b hb => List.mem_range.mp (List.mem_filter.mp hb).1
theorem begs_up (t : List Int) : (begs t).Pairwise (· < ·) := List.Pairwise.filter _ List.pairwise_lt_range
theorem clusP_at (t : List Int) (k : Nat) (hk : k < (begs t).length) : ∃ x y, (begs t)[k]? = some x ∧ (ends t)[k]? = some y ∧ x < y ∧ y ≤ t.length := by
  have tne : t ≠ [] := fun z => by subst z; rw [begs_nil] at hk; exact absurd hk (Nat.not_lt_zero _)
  have le := ends_len t tne
  have hx : (begs t)[k]? = some (begs t)[k] := List.getElem?_eq_getElem hk
  have x1 := begs_lt t _ (List.getElem_mem hk)
  by_cases h : k + 1 < (begs t).length
  · have hy : (ends t)[k]? = some (begs t)[k + 1] := by
      unfold ends
      rw [List.getElem?_append_left (by rw [List.length_drop]; omega), List.getElem?_drop, show 1 + k = k + 1 by omega]
      exact List.getElem?_eq_getElem h
    exact ⟨_, _, hx, hy, List.pairwise_iff_getElem.mp (begs_up t) k (k + 1) hk h (by omega), Nat.le_of_lt (begs_lt t _ (List.getElem_mem h))⟩
  · have hy : (ends t)[k]? = some t.length := by
      unfold ends
      rw [List.getElem?_append_right (by rw [List.length_drop]; omega), List.length_drop, show k - ((begs t).length - 1) = 0 by omega]
      rfl
    exact ⟨_, _, hx, hy, x1, Nat.le_refl _⟩
theorem clusP_ok (t : List Int) : ∀ p ∈ clusP t, p.1 < p.2 ∧ p.2 ≤ t.length := by
  intro p hp
  obtain ⟨k, hk, rfl⟩ := List.mem_map.mp hp
  obtain ⟨x, y, hx, hy, h1, h2⟩ := clusP_at t k (List.mem_range.mp hk)
  rw [List.getD_eq_getElem?_getD, List.getD_eq_getElem?_getD, hx, hy]
  exact ⟨h1, h2⟩
theorem clusP_len (t : List Int) : (clusP t).length ≤ t.length := by
  unfold clusP
  rw [List.length_map, List.length_range]
  exact begs_le t
theorem cutD_ints (t : List Int) (a b : Nat) (h : a ≤ b) (hb : b ≤ t.length) : cutD (t.map .int) (some (a : Int)) (some (b : Int)) = (cutT t (a, b)).map .int := by
  rw [cutD_mid _ _ _ h (by rw [List.length_map]; exact hb)]
  unfold cutT
  rw [List.map_take, List.map_drop]
theorem cutT_len (t : List Int) (p : Nat × Nat) : (cutT t p).length ≤ t.length := by
  unfold cutT
  rw [List.length_take, List.length_drop]
  omega
theorem rd__law_every {K : PySem.W.Frag} (vs : List V) (H : Hp) (Q : VK) (E : XK) (h : sp__law_every K vs H Q E) : r__law_every K { nx := fun _ H' => Q .non H', rt := Q } (start ["_law_faces_here", "_law_text", "_law_begin", "_law_end"] vs) H := by
  obtain ⟨v1, v2, fs, t, rfl, h1, h2, hz1, hz2, k⟩ := h
  have nk : Nk R0 (Dom H) H := ⟨fun _ z => z.elim, (Nk.dom (R := R0) trivial).inn⟩
  have nW : ∀ (N : Addr → Prop) (a : Addr), R0.W a → N a := fun _ _ z => z.elim
  have hc : Ev R0 (tCall (sp__law_clusters K) [] E0 (tCons (tVar 1) tNil)) [some v1, some v2, none, none] H (Dom H) (.list ((clusP t).map pairD)) := by
    refine e_call (N := No) (a_one (e_var rfl h2 (nW _))) fun H1 vs e1 r Q q => ?_
    cases r with
    | cons r1 r2 =>
      cases r2
      exact ⟨_, t, rfl, r1, hz2, fun v' H' e' d' => q v' H' (Le.r0 e') (d'.weak fun a ha => by
        obtain ⟨o, ho⟩ := ha
        exact ⟨o, e1.ex a o ho⟩)⟩
  refine s_retP (R := R0) (N := Dom H) (φp := fun d => d = .list ((everyP fs t).map natsD)) ?_ trivial fun d v3 H3 e3 o r3 => ?_
  · refine (p_lcG (fun i o => o = some (natsD (havP fs (cutT t ((clusP t).getD i (0, 0)))))) hc (nW _) (by rw [List.length_map]; have := clusP_len t; omega) nk fun i x v D H4 hD e4 nk4 hx r => ?_).imp fun d o => ?_
    · rw [List.getElem?_map] at hx
      cases hi : (clusP t)[i]? with
      | none => rw [hi] at hx; cases hx
      | some p =>
        rw [hi] at hx
        cases hx
        have g : (clusP t).getD i (0, 0) = p := by rw [List.getD_eq_getElem?_getD, hi]; rfl
        rw [g]
        obtain ⟨pa, pb⟩ := p
        obtain ⟨b1, b2⟩ := clusP_ok t _ (List.mem_of_getElem? hi)
        obtain ⟨a, xs, rfl, ha, ra⟩ := r.tupy
        cases ra with
        | cons r1 r2 =>
        cases r2 with
        | cons r2 r3 =>
        cases r3; cases r1; cases r2
        refine ⟨[some v1, some v2, some (.int (pa : Int)), some (.int (pb : Int))], fun Qs q => ⟨a, _, rfl, SqT.of ha, rfl, _, _, rfl, _, _, rfl, rfl, q⟩, rfl, ?_⟩
        have nk4' : Nk R0 (fun a => a = D ∨ No a) H4 := ⟨nW _, fun a z q => nk4.inn a (z.elim .inl fun z => z.elim) q⟩
        refine f_some (e_call (N := fun a => a = D ∨ No a) (a_cons (e_var rfl ((h1.more hD).le e4 (nW _)) (nW _)) (a_one ((e_sll (e_var rfl ((h2.more hD).le e4 (nW _)) (nW _)) (o_some (e_vi rfl)) (o_some (e_vi rfl)) nk4').is (congrArg PyData.list (cutD_ints t pa pb (Nat.le_of_lt b1) b2)))) (nW _)) fun H5 vs e5 r Q q => ?_)
        cases r with
        | cons r1 r2 =>
        cases r2 with
        | cons r2 r3 =>
        cases r3
        exact ⟨_, _, fs, _, rfl, r1.no, r2.no, hz1, Nat.le_trans (cutT_len t _) hz2, fun v' H' e' d' => q v' H' (Le.r0 e') (d'.weak fun a ha => by
          have := e5.back a
          cases z : H5 a with
          | none =>
            exact absurd (this z) (nk4.inn a ha)
          | some o => exact ⟨o, z⟩)⟩
    · have q := out_det (f := fun _ => true) (g := fun i => natsD (havP fs (cutT t ((clusP t).getD i (0, 0))))) (n := ((clusP t).map pairD).length) (d := d) o
      rw [q, List.filter_eq_self.mpr (fun _ _ => rfl), List.length_map]
      congr 1
      unfold everyP
      rw [List.map_map]
      refine List.ext_getElem? fun k => ?_
      rw [List.getElem?_map, List.getElem?_map]
      by_cases hk : k < (clusP t).length
      · rw [List.getElem?_range hk, List.getElem?_eq_getElem hk, Option.map_some, Option.map_some, List.getD_eq_getElem?_getD, List.getElem?_eq_getElem hk]
        rfl
      · rw [List.getElem?_eq_none (by simp; omega), List.getElem?_eq_none (by omega)]
        rfl
  subst o
  exact k v3 H3 e3.ex r3
end FF
set_option Elab.async false
set_option linter.all false
set_option maxRecDepth 100000
set_option maxHeartbeats 2000000
/-! drawn texts -/
namespace FF
open PySem PySem.Spec PyProof.Rows L2
open Evl (Ex fresh_back)
section
variable {R : Rg} {K : PySem.W.Frag} {σ : L2.St} {H H' : Hp} {N N' : Addr → Prop} {ta tb tc te ti tn : TE} {t u : TT} {d : PyData} {φ ψ χ : Int → Prop} {ar as : Addr} {sc : List Int} {D : Ends} {tu tw tz : TS}
theorem z_ixl {ns : List Int} (ha : Ev R ta σ H N (.list (ns.map .int))) (hb : EvZ R tb σ H (fun z => 0 ≤ z ∧ z < ns.length)) (hW : ∀ a, R.W a → N a) (f : ∀ z ∈ ns, χ z) : EvZ R (tOp (rIx K) ta tb) σ H χ := fun H1 e Q q =>
  ha H1 e _ fun v H2 e2 r => hb H2 (e.trans e2) _ fun i H3 e3 p => by
    obtain ⟨a, xs, rfl, na, hl, ra⟩ := (r.le e3 hW).listy
    have ex := ra.ints
    subst ex
    obtain ⟨j, rfl⟩ : ∃ j : Nat, i = (j : Int) := ⟨i.toNat, by omega⟩
    have hi : j < ns.length := by omega
    have at1 : atI (ns.map V.int) (j : Int) = some (.int ns[j]) := atI_nat (by rw [List.getElem?_map, List.getElem?_eq_getElem hi]; rfl)
    exact .inl ⟨a, _, (j : Int), _, rfl, rfl, SqL.of hl, at1, q _ H3 (e2.trans e3) (f _ (List.getElem_mem hi))⟩
/-- found = [] -/
theorem q_asgNew {i : Nat} (ok : R.I H) (q : ∀ p H1, H p = none → Le R H H1 → H1 p = some (.lst []) → tz D (σ.set i (some (.ref p))) H1) : tSeq (tAsg (tLst tNil) (gName i)) tz D σ H := ⟨Nat.zero_le _, fun p hp => q p _ hp (Le.new hp ok) upd_same⟩
theorem notW_of (ok : R.I H) {p : Addr} (hp : H p = none) : ¬ R.W p := fun w => by obtain ⟨xs, q, _⟩ := R.wt H p ok w; rw [hp] at q; cases q
/-- found.append(e), e a whole number -/
theorem s_appZ {i : Nat} {p : Addr} {xs : List V} (hσ : σ[i]? = some (some (.ref p))) (hp : H p = some (.lst xs)) (pW : ¬ R.W p) (h : EvZ R te σ H φ) (ok : R.I H) (hz : xs.length < 100000) (q : ∀ z H2, Le R H H2 → φ z → D.nx σ (upd H2 p (.lst (xs ++ [.int z])))) :
    tDrop (tBM K "list" rAppend (tVar i) (tCons te tNil)) D σ H := ⟨_, hσ, .inl ⟨rfl, xs, SqL.of hp⟩, h H (Le.refl ok) _ fun z H2 e2 pz => ⟨p, xs, _, rfl, rfl, e2.ext p _ pW hp, Evl.sz_lt hz, q z H2 e2 pz⟩⟩
theorem s_appP {i : Nat} {p : Addr} {xs : List V} {φp : PyData → Prop} (hσ : σ[i]? = some (some (.ref p))) (hp : H p = some (.lst xs)) (pW : ¬ R.W p) (h : EvP R te σ H N φp) (ok : R.I H) (hz : xs.length < 100000) (q : ∀ d v H2, Le R H H2 → φp d → Dt N H2 d v → H2 p = some (.lst xs) → D.nx σ (upd H2 p (.lst (xs ++ [v])))) :
    tDrop (tBM K "list" rAppend (tVar i) (tCons te tNil)) D σ H := ⟨_, hσ, .inl ⟨rfl, xs, SqL.of hp⟩, h H (Le.refl ok) _ fun d v H2 e2 pz r => ⟨p, xs, _, rfl, rfl, e2.ext p _ pW hp, Evl.sz_lt hz, q d v H2 e2 pz r (e2.ext p _ pW hp)⟩⟩
theorem z_if {b : Bool} (h : EvT R t σ H b) (h1 : b = true → EvZ R ta σ H φ) (h2 : b = false → EvZ R tb σ H φ) : EvZ R (tIf t ta tb) σ H φ := fun H1 e Q q => h H1 e _ fun H2 e2 => by
  cases b with
  | true => exact h1 rfl H2 (e.trans e2) Q fun z H3 e3 => q z H3 (e2.trans e3)
  | false => exact h2 rfl H2 (e.trans e2) Q fun z H3 e3 => q z H3 (e2.trans e3)
theorem q_forZ {j : Nat} (Pv : Nat → L2.St → Hp → Prop) (h : EvZ R tn σ H φ) (ok : R.I H) (hn : ∀ n, φ n → 0 ≤ n ∧ n ≤ 40000) (h0 : ∀ n H1, Le R H H1 → φ n → Pv 0 σ H1)
    (hs : ∀ (n : Int) (i : Nat) σ' H', φ n → (i : Int) < n → Pv i σ' H' → tu { D with nx := Pv (i + 1), ct := Pv (i + 1), bk := tz D } (σ'.set j (some (.int (i : Int)))) H') (hd : ∀ (n : Int) σ' H', φ n → Pv n.toNat σ' H' → tz D σ' H') :
    tSeq (tFor (iRng1 (tCons tn tNil)) (gName j) tu) tz D σ H := h H (Le.refl ok) _ fun n H1 e1 p => by
  have hb := hn n p
  refine ⟨n, rfl, by omega, by omega, for_range (D := { D with nx := tz D }) (lo := 0) (n := n.toNat) Pv (h0 n H1 e1 p) (fun i σ' H' hi pv => ?_) (fun σ' H' pv => hd n σ' H' p pv)⟩
  have e0 : (0 : Int) + (i : Int) = (i : Int) := Int.zero_add _
  show tu { D with nx := Pv (i + 1), ct := Pv (i + 1), bk := tz D } (σ'.set j (some (.int ((0 : Int) + (i : Int))))) H'
  rw [e0]
  exact hs n i σ' H' p (by omega) pv
end
/-- signs, any number up to two hundred -/
def SignsOk (t : List Int) : Prop := (∀ z ∈ t, 0 ≤ z ∧ z < 1000) ∧ t.length ≤ 200
def sp__law_signs (K : PySem.W.Frag) : Sp := fun vs H Q _ => ∃ (ar as : Addr) (sc : List Int) (vp : V) (ls ms : List Int) (most : Int), vs = [.ref ar, vp, .int most] ∧ RowI K ar as sc H ∧ PoolOk ls ms ∧ Dt (fun a => a = ar) H (poolD ls ms) vp ∧ 0 ≤ most ∧ most ≤ 100 ∧
  ∀ (t : List Int) (v : V) (H' : Hp), SignsOk t → Le (Rr K ar as sc) H H' → Dt (Dom H) H' (.list (t.map .int)) v → Q v H'
/-- slots ['_law_row', '_law_pool_here', '_law_most', '_law_found', '_law_k', '_law_way', '_law_some'] -/
abbrev r__law_signs_a (K : PySem.W.Frag) : TS :=
    (tSeq (tAsg (tLst tNil) (gName 3))
    (tSeq (tFor (iRng1 (tCons (tCall (sp__law_taken K) [] E0 (tCons (tVar 0) (tCons (tOp (rAddU K) (tVar 2) (tC (.int 1))) tNil))) tNil)) (gName 4) (tSeq (tAsg (tCall (sp__law_taken K) [] E0 (tCons (tVar 0) (tCons (tC (.int 24)) tNil))) (gName 5))
    (tSeq (tAsg (tOp (rIx K) (tVar 1) (tCB (rIntU) (tCons (tOp (rEqD K) (tOp (rI (fun _ j => j ≠ 0) fun i j => .int (i.fmod j)) (tVar 5) (tC (.int 4))) (tC (.int 3))) tNil))) (gName 6))
    (tDrop (tBM K "list" rAppend (tVar 3) (tCons (tOp (rIx K) (tLst (tCons (tOp (rIx K) (tVar 6) (tCall (sp__law_taken K) [] E0 (tCons (tVar 0) (tCons (tCB (rLenU K) (tCons (tVar 6) tNil)) tNil)))) (tCons (tCall (sp__law_taken K) [] E0 (tCons (tVar 0) (tCons (tC (.int 1000)) tNil))) tNil))) (tCB (rIntU) (tCons (tOp (rEqD K) (tVar 5) (tC (.int 23))) tNil))) tNil))))))
    (tRet (tVar 3))))
/-- slots ['_law_row', '_law_pool_here', '_law_most', '_law_found', '_law_many', '_law_last', '_law_k', '_law_way', '_law_some'] -/
abbrev r__law_signs_b (K : PySem.W.Frag) : TS :=
    (tSeq (tAsg (tLst tNil) (gName 3))
    (tSeq (tAsg (tCall (sp__law_taken K) [] E0 (tCons (tVar 0) (tCons (tOp rMulU (tC (.int 12)) (tOp (rAddU K) (tVar 2) (tC (.int 1)))) tNil))) (gName 4))
    (tSeq (tAsg (tOp rMulU (tC (.int 11)) (tOp (rAddU K) (tVar 2) (tC (.int 1)))) (gName 5))
    (tSeq (tFor (iRng1 (tCons (tIf (tOr (tTest (tOp (rI0 fun i j => .bl (decide (i < j))) (tVar 4) (tVar 5))) (tTest (tOp (rNeD K) (tVar 2) (tC (.int 40))))) (tOp (rI (fun _ j => j ≠ 0) fun i j => .int (i.fmod j)) (tVar 4) (tOp (rAddU K) (tVar 2) (tC (.int 1)))) (tOp (rAddU K) (tOp (rI0 fun i j => .int (i - j)) (tVar 4) (tVar 5)) (tC (.int 160)))) tNil)) (gName 6) (tSeq (tAsg (tCall (sp__law_taken K) [] E0 (tCons (tVar 0) (tCons (tC (.int 24)) tNil))) (gName 7))
    (tSeq (tAsg (tOp (rIx K) (tVar 1) (tCB (rIntU) (tCons (tOp (rEqD K) (tOp (rI (fun _ j => j ≠ 0) fun i j => .int (i.fmod j)) (tVar 7) (tC (.int 4))) (tC (.int 3))) tNil))) (gName 8))
    (tDrop (tBM K "list" rAppend (tVar 3) (tCons (tOp (rIx K) (tLst (tCons (tOp (rIx K) (tVar 8) (tCall (sp__law_taken K) [] E0 (tCons (tVar 0) (tCons (tCB (rLenU K) (tCons (tVar 8) tNil)) tNil)))) (tCons (tCall (sp__law_taken K) [] E0 (tCons (tVar 0) (tCons (tC (.int 1000)) tNil))) tNil))) (tCB (rIntU) (tCons (tOp (rEqD K) (tVar 7) (tC (.int 23))) tNil))) tNil))))))
    (tRet (tVar 3))))))
/-- one sign more -/
theorem sign_turn {K : PySem.W.Frag} {ar as : Addr} {sc : List Int} {H0 H : Hp} {σ : L2.St} {D : Ends} {ls ms zs : List Int} {vp : V} {p : Addr} {iw is : Nat} (h0 : σ[0]? = some (some (.ref ar))) (h1 : σ[1]? = some (some vp)) (h3 : σ[3]? = some (some (.ref p))) (n0 : iw ≠ 0) (n1 : iw ≠ 1) (n3 : iw ≠ 3) (n4 : is ≠ 0) (n5 : is ≠ 1) (n6 : is ≠ 3) (nw : iw ≠ is) (lw : iw < σ.length) (ls2 : is < σ.length)
    (po : PoolOk ls ms) (dp : Dt (fun a => a = ar) H0 (poolD ls ms) vp) (e0 : Le (Rr K ar as sc) H0 H) (hp0 : H0 p = none) (hp : H p = some (.lst (zs.map V.int))) (hz : zs.length < 1000)
    (q : ∀ (w z : Int) (vs : V) (H' : Hp), Le (Rr K ar as sc) H0 H' → H' p = some (.lst ((zs ++ [z]).map V.int)) → 0 ≤ z → z < 1000 → D.nx ((σ.set iw (some (.int w))).set is (some vs)) H') :
    tSeq (tAsg (tCall (sp__law_taken K) [] E0 (tCons (tVar 0) (tCons (tC (.int 24)) tNil))) (gName iw))
    (tSeq (tAsg (tOp (rIx K) (tVar 1) (tCB (rIntU) (tCons (tOp (rEqD K) (tOp (rI (fun _ j => j ≠ 0) fun i j => .int (i.fmod j)) (tVar iw) (tC (.int 4))) (tC (.int 3))) tNil))) (gName is))
    (tDrop (tBM K "list" rAppend (tVar 3) (tCons (tOp (rIx K) (tLst (tCons (tOp (rIx K) (tVar is) (tCall (sp__law_taken K) [] E0 (tCons (tVar 0) (tCons (tCB (rLenU K) (tCons (tVar is) tNil)) tNil)))) (tCons (tCall (sp__law_taken K) [] E0 (tCons (tVar 0) (tCons (tC (.int 1000)) tNil))) tNil))) (tCB (rIntU) (tCons (tOp (rEqD K) (tVar iw) (tC (.int 23))) tNil))) tNil)))) D σ H := by
  have sub : ∀ a, (Rr K ar as sc).W a → a = ar := fun a w => w
  have pW : ¬ (Rr K ar as sc).W p := notW_of e0.ok0 hp0
  refine q_asgZ (R := Rr K ar as sc) (φ := fun z => 0 ≤ z ∧ z < 24) (z_draw (N := fun a => a = ar) h0 e_int (by decide) (by decide)) e0.ok fun w H1 e1 hw => ?_
  have g0 : (σ.set iw (some (V.int w)))[0]? = some (some (.ref ar)) := by rw [List.getElem?_set_ne n0]; exact h0
  have g1 : (σ.set iw (some (V.int w)))[1]? = some (some vp) := by rw [List.getElem?_set_ne n1]; exact h1
  have g3 : (σ.set iw (some (V.int w)))[3]? = some (some (.ref p)) := by rw [List.getElem?_set_ne n3]; exact h3
  have gw : (σ.set iw (some (V.int w)))[iw]? = some (some (.int w)) := List.getElem?_set_self lw
  -- letters or marks
  obtain ⟨some_, hs, hlen, hrange⟩ : ∃ ns : List Int, atI [PyData.list (ls.map .int), PyData.list (ms.map .int)] (if decide (w.fmod 4 = 3) = true then 1 else 0) = some (.list (ns.map .int)) ∧ (0 < ns.length ∧ ns.length ≤ 92) ∧ ∀ z ∈ ns, 0 ≤ z ∧ z < 1000 := by
    by_cases c : w.fmod 4 = 3
    · rw [decide_eq_true c, if_pos rfl]
      exact ⟨ms, rfl, ⟨po.ml.1, Nat.le_trans po.ml.2 (by decide)⟩, fun z hz => by have := po.mb z hz; omega⟩
    · rw [decide_eq_false c, if_neg (by decide)]
      exact ⟨ls, rfl, ⟨po.ll.1, po.ll.2⟩, fun z hz => by have := po.lb z hz; omega⟩
  refine q_asg (R := Rr K ar as sc) (N := fun a => a = ar) (d := .list (some_.map .int)) (e_ixt (ds := [PyData.list (ls.map .int), PyData.list (ms.map .int)]) (e_var g1 (dp.le (e0.trans e1) sub) sub) (e_intb (e_eqi (e_I (e_vi gw) e_int (by decide)) e_int sub)) sub hs) e1.ok fun vs H2 e2 rs => ?_
  have k0 : ((σ.set iw (some (V.int w))).set is (some vs))[0]? = some (some (.ref ar)) := by rw [List.getElem?_set_ne n4]; exact g0
  have k3 : ((σ.set iw (some (V.int w))).set is (some vs))[3]? = some (some (.ref p)) := by rw [List.getElem?_set_ne n6]; exact g3
  have kw : ((σ.set iw (some (V.int w))).set is (some vs))[iw]? = some (some (.int w)) := by rw [List.getElem?_set_ne (Ne.symm nw)]; exact gw
  have ks : ((σ.set iw (some (V.int w))).set is (some vs))[is]? = some (some vs) := List.getElem?_set_self (by rw [List.length_set]; exact ls2)
  have e02 := (e0.trans e1).trans e2
  have hp2 := (e1.trans e2).ext p _ pW hp
  refine s_appZ (R := Rr K ar as sc) (φ := fun z => 0 ≤ z ∧ z < 1000) k3 hp2 pW ?_ e2.ok (by rw [List.length_map]; omega) fun z H3 e3 hz3 => ?_
  · refine z_pick2 (z_ixl (N := fun a => a = ar) (e_var ks rs sub) (z_draw (N := fun a => a = ar) k0 (many := (some_.length : Int)) ?_ (by omega) (by omega)) sub hrange) (z_draw (N := fun a => a = ar) k0 e_int (by decide) (by decide)) (z_of (N := fun a => a = ar) (e_intb (e_eqi (e_vi kw) e_int sub)) ?_)
    · have q := e_lenl (R := Rr K ar as sc) (K := K) (N' := fun a => a = ar) (e_var ks rs sub)
      rwa [List.length_map] at q
    · by_cases c : w = 23
      · rw [decide_eq_true c, if_pos rfl]; decide
      · rw [decide_eq_false c, if_neg (by decide)]; decide
  · have hp3 := e3.ext p _ pW hp2
    refine q w z vs _ ((e02.trans e3).put hp0 hp3) ?_ hz3.1 hz3.2
    rw [upd_same, List.map_append]
    rfl
theorem rd__law_signs_a {K : PySem.W.Frag} (vs : List V) (H : Hp) (Q : VK) (E : XK) (h : sp__law_signs K vs H Q E) : r__law_signs_a K { nx := fun _ H' => Q .non H', rt := Q } (start ["_law_row", "_law_pool_here", "_law_most", "_law_found", "_law_k", "_law_way", "_law_some"] vs) H := by
  obtain ⟨ar, as, sc, vp, ls, ms, most, rfl, ok, po, dp, m0, m1, k⟩ := h
  have nk : Nk (Rr K ar as sc) (Dom H) H := Nk.dom ok
  refine q_asgNew (R := Rr K ar as sc) ok fun p H1 hp e1 h1 => ?_
  refine q_forZ (R := Rr K ar as sc) (φ := fun n => 0 ≤ n ∧ n < most + 1) (fun i σ' H' => ∃ (zs : List Int) (x4 x5 x6 : Option V), σ' = [some (.ref ar), some vp, some (.int most), some (.ref p), x4, x5, x6] ∧ Le (Rr K ar as sc) H H' ∧ H' p = some (.lst (zs.map V.int)) ∧ zs.length = i ∧ ∀ z ∈ zs, 0 ≤ z ∧ z < 1000)
    (z_draw (N := Dom H) rfl (e_add (e_vi rfl) e_int) (by omega) (by omega)) e1.ok (fun n q => by omega) (fun n H2 e2 _ => ⟨[], none, none, none, rfl, e1.trans e2, e2.ext p _ (notW_of ok hp) h1, rfl, fun z hz => nomatch hz⟩) ?_ ?_
  · rintro n i σ' H' hn hi ⟨zs, x4, x5, x6, rfl, e2, h2, hl, hz⟩
    refine sign_turn (iw := 5) (is := 6) rfl rfl rfl (by decide) (by decide) (by decide) (by decide) (by decide) (by decide) (by decide) (by show 5 < 7; decide) (by show 6 < 7; decide) po dp e2 hp h2 (by omega) fun w z vs H3 e3 h3 z0 z1 => ?_
    refine ⟨zs ++ [z], _, _, _, rfl, e3, h3, by rw [List.length_append, hl]; rfl, fun y hy => ?_⟩
    rcases List.mem_append.mp hy with y1 | y1
    · exact hz y y1
    · simp at y1; subst y1; exact ⟨z0, z1⟩
  · rintro n σ' H' hn ⟨zs, x4, x5, x6, rfl, e2, h2, hl, hz⟩
    exact ⟨_, rfl, k zs _ H' ⟨hz, by omega⟩ e2 (.lst (nk.fresh hp) h2 (dta_ints zs))⟩
theorem rd__law_signs_b {K : PySem.W.Frag} (vs : List V) (H : Hp) (Q : VK) (E : XK) (h : sp__law_signs K vs H Q E) : r__law_signs_b K { nx := fun _ H' => Q .non H', rt := Q } (start ["_law_row", "_law_pool_here", "_law_most", "_law_found", "_law_many", "_law_last", "_law_k", "_law_way", "_law_some"] vs) H := by
  obtain ⟨ar, as, sc, vp, ls, ms, most, rfl, ok, po, dp, m0, m1, k⟩ := h
  have nk : Nk (Rr K ar as sc) (Dom H) H := Nk.dom ok
  refine q_asgNew (R := Rr K ar as sc) ok fun p H1 hp e1 h1 => ?_
  refine q_asgZ (R := Rr K ar as sc) (φ := fun z => 0 ≤ z ∧ z < 12 * (most + 1)) (z_draw (N := Dom H) rfl (e_mul e_int (e_add (e_vi rfl) e_int) (.inl (by decide))) (by omega) (by omega)) e1.ok fun many H2 e2 hm => ?_
  refine q_asg (R := Rr K ar as sc) (N := Dom H) (e_mul e_int (e_add (e_vi rfl) e_int) (.inl (by decide))) e2.ok fun v3 H3 e3 r3 => ?_
  cases r3
  have e13 := (e1.trans e2).trans e3
  refine q_forZ (R := Rr K ar as sc) (φ := fun n => 0 ≤ n ∧ n ≤ 200) (fun i σ' H' => ∃ (zs : List Int) (x4 x5 x6 : Option V), σ' = [some (.ref ar), some vp, some (.int most), some (.ref p), some (.int many), some (.int (11 * (most + 1))), x4, x5, x6] ∧ Le (Rr K ar as sc) H H' ∧ H' p = some (.lst (zs.map V.int)) ∧ zs.length = i ∧ ∀ z ∈ zs, 0 ≤ z ∧ z < 1000)
    ?_ e3.ok (fun n q => by omega) (fun n H4 e4 _ => ⟨[], none, none, none, rfl, e13.trans e4, ((e2.trans e3).trans e4).ext p _ (notW_of ok hp) h1, rfl, fun z hz => nomatch hz⟩) ?_ ?_
  · refine z_if (b := decide (many < 11 * (most + 1)) || !decide (most = 40)) (t_or (t_cmp (e_IB (N := Dom H) (e_vi rfl) (e_vi rfl))) fun _ => t_cmp (e_nei (N := Dom H) (e_vi rfl) e_int nk.sub)) (fun _ => ?_) (fun hb => ?_)
    · refine z_of (N := Dom H) (e_I (e_vi rfl) (e_add (e_vi rfl) e_int) (by omega)) ?_
      rw [Int.fmod_eq_emod_of_nonneg _ (by omega)]
      have := Int.emod_nonneg many (show most + 1 ≠ 0 by omega)
      have := Int.emod_lt_of_pos many (show 0 < most + 1 by omega)
      omega
    · have h1 : ¬ many < 11 * (most + 1) := by intro q; simp [q] at hb
      have h2 : most = 40 := by
        by_cases q : most = 40
        · exact q
        · simp [q] at hb
      refine z_of (N := Dom H) (e_add (e_I0 (e_vi rfl) (e_vi rfl)) e_int) ?_
      omega
  · rintro n i σ' H' hn hi ⟨zs, x4, x5, x6, rfl, e4, h2, hl, hz⟩
    refine sign_turn (iw := 7) (is := 8) rfl rfl rfl (by decide) (by decide) (by decide) (by decide) (by decide) (by decide) (by decide) (by show 7 < 9; decide) (by show 8 < 9; decide) po dp e4 hp h2 (by omega) fun w z vs H3 e3 h3 z0 z1 => ?_
    refine ⟨zs ++ [z], _, _, _, rfl, e3, h3, by rw [List.length_append, hl]; rfl, fun y hy => ?_⟩
    rcases List.mem_append.mp hy with y1 | y1
    · exact hz y y1
    · simp at y1; subst y1; exact ⟨z0, z1⟩
  · rintro n σ' H' hn ⟨zs, x4, x5, x6, rfl, e4, h2, hl, hz⟩
    exact ⟨_, rfl, k zs _ H' ⟨hz, by omega⟩ e4 (.lst (nk.fresh hp) h2 (dta_ints zs))⟩
end FF
set_option Elab.async false
set_option linter.all false
set_option maxRecDepth 100000
set_option maxHeartbeats 2000000
/-! drawn names and faces -/
namespace FF
open PySem PySem.Spec PyProof.Rows L2
open Evl (Ex fresh_back)
def rJoinU (K : PySem.W.Frag) : V → List V → Hp → VK → Prop := fun x xs H Q => ∃ a p, ∃ ys : List Str, x = .str a ∧ xs = [.ref p] ∧ (SqL K H p (ys.map V.str) ∨ SqT K H p (ys.map V.str)) ∧ (ys.map (·.length)).sum + ys.length * a.length ≤ 16777216 ∧ Q (.str (Txt.join a ys)) H
theorem pe_joinU {X : Cx} {o e : Expr} {to te : TE} {apos pos : Pos} (ho : PE X o to) (he : PE X e te) (hs : starEach [e] X.env = [(false, eval e X.env)] := by rfl) (hbase : attributeBase o "join" X.env (eval o X.env) = eval o X.env := by rfl) (hline : (apos.endLine == pos.line) = true := by rfl) :
    PE X (.Call (.Attribute o "join" apos) [e] [] pos) (tM1 (rJoinU X.K) to te) := pe_join ho he hs hbase hline
/-- a text by its signs -/
def S (l : List Nat) : Str := ⟨l.toArray⟩
theorem S_len (l : List Nat) : (S l).length = l.length := by
  show l.toArray.size = l.length
  simp
theorem S_cps (l : List Nat) : (S l).cps.toList = l := by
  show l.toArray.toList = l
  simp
theorem S_app (a b : List Nat) : S a ++ S b = S (a ++ b) := by
  show (⟨a.toArray ++ b.toArray⟩ : Str) = ⟨(a ++ b).toArray⟩
  simp
theorem S_ext {a b : List Nat} (h : S a = S b) : a = b := by
  have := congrArg (fun s : Str => s.cps.toList) h
  simpa [S_cps] using this
theorem cutS_take (l : List Nat) (n : Nat) : cutS (S l) none (some (n : Int)) = S (l.take n) := by
  unfold cutS
  rw [HT.sIx_none, HT.sIx_nat, S_cps, S_len]
  show (⟨((l.drop 0).take (min n l.length - 0)).toArray⟩ : Str) = ⟨(l.take n).toArray⟩
  rw [List.drop_zero, Nat.sub_zero, Nat.min_def]
  split
  · rfl
  · rw [List.take_of_length_le (Nat.le_refl _), List.take_of_length_le (by omega)]
theorem join_none : ∀ ls : List Nat, Txt.join "" (ls.map fun c => S [c]) = S ls := by
  intro ls
  have e0 : Txt.join "" (ls.map fun c => S [c]) = Str.join "" (ls.map fun c => S [c]) := StrLaws.glued_eq_join _ _
  rw [e0]
  clear e0
  induction ls with
  | nil => rfl
  | cons a r ih =>
    cases r with
    | nil => rfl
    | cons b r =>
      show S [a] ++ "" ++ Str.join "" ((b :: r).map fun c => S [c]) = S (a :: b :: r)
      rw [ih]
      have e : S [a] ++ ("" : Str) = S [a] := by
        show (⟨#[a] ++ Str.cps ""⟩ : Str) = ⟨#[a]⟩
        have e0 : Str.cps "" = #[] := by decide +kernel
        rw [e0]
        simp
      rw [e, S_app]
      rfl
/-- the k-th small letter, k by its rest -/
def letr (k : Int) : Nat := 97 + (k.fmod 26).toNat
theorem letr_rng (k : Int) : 97 ≤ letr k ∧ letr k ≤ 122 := by
  unfold letr
  rw [Int.fmod_eq_emod_of_nonneg _ (by decide)]
  have := Int.emod_nonneg k (show (26 : Int) ≠ 0 by decide)
  have := Int.emod_lt_of_pos k (show (0 : Int) < 26 by decide)
  omega
abbrev abc : Str := "abcdefghijklmnopqrstuvwxyz"
theorem abc_eq : abc = S (List.range' 97 26) := by decide +kernel
theorem abc_at (k : Int) : atI abc.cps.toList (k.fmod 26) = some (letr k) := by
  have h0 := Int.emod_nonneg k (show (26 : Int) ≠ 0 by decide)
  have h1 := Int.emod_lt_of_pos k (show (0 : Int) < 26 by decide)
  unfold letr
  rw [Int.fmod_eq_emod_of_nonneg _ (by decide), abc_eq, S_cps]
  obtain ⟨j, hj⟩ : ∃ j : Nat, k % 26 = (j : Int) := ⟨(k % 26).toNat, by omega⟩
  rw [hj]
  refine atI_nat ?_
  rw [List.getElem?_range' (by omega)]
  simp
theorem abc_len : abc.length ≤ 100000 := by decide +kernel
/-- a name as a case wants it -/
def NameOk (s : Str) : Prop := 1 ≤ s.length ∧ s.length ≤ 8 ∧ ∀ c ∈ s.cps.toList, 97 ≤ c ∧ c ≤ 122
def NamesOk (ns : List Str) : Prop := ns.Nodup ∧ ∀ s ∈ ns, NameOk s
def sp__law_names (K : PySem.W.Frag) : Sp := fun vs H Q _ => ∃ (ar as : Addr) (sc : List Int) (many : Int), vs = [.ref ar, .int many] ∧ RowI K ar as sc H ∧ 0 ≤ many ∧ many ≤ 8 ∧
  ∀ (ns : List Str) (v : V) (H' : Hp), NamesOk ns → (ns.length : Int) = many → Le (Rr K ar as sc) H H' → Dt (Dom H) H' (.list (ns.map .str)) v → Q v H'
def baseL (t : Int) : List Nat := (List.range 8).map fun k : Nat => letr (t + 7 * k)
theorem base_len (t : Int) : (baseL t).length = 8 := by unfold baseL; simp
theorem base_rng (t : Int) : ∀ c ∈ baseL t, 97 ≤ c ∧ c ≤ 122 := fun c hc => by
  obtain ⟨k, _, rfl⟩ := List.mem_map.mp hc
  exact letr_rng _
theorem names1 (t : Int) (n : Nat) (h : n ≤ 8) : NamesOk ((List.range n).map fun k => S ((baseL t).take (k + 1))) := by
  have hl := base_len t
  refine ⟨?_, fun s hs => ?_⟩
  · refine List.Pairwise.map _ (fun a b hab e => ?_) (List.Pairwise.and_mem.mp (List.pairwise_lt_range (n := n)))
    have q := congrArg List.length (S_ext e)
    obtain ⟨ha, hb, hlt⟩ := hab
    have := List.mem_range.mp ha
    have := List.mem_range.mp hb
    rw [List.length_take, List.length_take] at q
    omega
  · obtain ⟨k, hk, rfl⟩ := List.mem_map.mp hs
    have := List.mem_range.mp hk
    refine ⟨?_, ?_, fun c hc => ?_⟩
    · rw [S_len, List.length_take]; omega
    · rw [S_len, List.length_take]; omega
    · rw [S_cps] at hc
      exact base_rng t c (List.mem_of_mem_take hc)
theorem names2 (t c : Int) (n : Nat) (h : n ≤ 8) (c0 : 0 ≤ c) (c8 : c < 8) : NamesOk ((List.range n).map fun k : Nat => S ((baseL t).take c.toNat ++ [letr (t + 3 + 5 * k)])) := by
  have hl := base_len t
  refine ⟨?_, fun s hs => ?_⟩
  · refine List.Pairwise.map _ (fun a b hab e => ?_) (List.Pairwise.and_mem.mp (List.pairwise_lt_range (n := n)))
    obtain ⟨ha, hb, hlt⟩ := hab
    have := List.mem_range.mp ha
    have := List.mem_range.mp hb
    have q := List.append_cancel_left (S_ext e)
    simp only [List.cons.injEq, and_true] at q
    unfold letr at q
    rw [Int.fmod_eq_emod_of_nonneg _ (by decide), Int.fmod_eq_emod_of_nonneg _ (by decide)] at q
    have := Int.emod_nonneg (t + 3 + 5 * (a : Int)) (show (26 : Int) ≠ 0 by decide)
    have := Int.emod_nonneg (t + 3 + 5 * (b : Int)) (show (26 : Int) ≠ 0 by decide)
    omega
  · obtain ⟨k, hk, rfl⟩ := List.mem_map.mp hs
    refine ⟨?_, ?_, fun x hx => ?_⟩
    · rw [S_len, List.length_append]; simp
    · rw [S_len, List.length_append, List.length_take]; simp; omega
    · rw [S_cps] at hx
      rcases List.mem_append.mp hx with q | q
      · exact base_rng t x (List.mem_of_mem_take q)
      · simp at q; subst q; exact letr_rng _
section
variable {R : Rg} {K : PySem.W.Frag} {σ : L2.St} {H H' : Hp} {N N' : Addr → Prop} {ta tb tc te ti tn : TE} {t u : TT} {d : PyData}
theorem e_joinN {ls : List Nat} (h : Ev R te σ H N (.list ((ls.map fun c => S [c]).map .str))) (hz : ls.length ≤ 1000) : Ev R (tM1 (rJoinU K) (tC (.str "")) te) σ H N (.str (S ls)) := fun H1 e Q q => ⟨⟨_, rfl⟩, h H1 e _ fun v H2 e2 r => by
  obtain ⟨a, xs, rfl, na, hl, ra⟩ := r.listy
  have ex := ra.strs
  subst ex
  refine ⟨"", a, _, rfl, rfl, .inl (SqL.of hl), ?_, ?_⟩
  · have e1 : ((ls.map fun c => S [c]).map (·.length)).sum = ls.length := by
      clear hl ra hz h r q
      induction ls with
      | nil => rfl
      | cons x r ih => simp only [List.map_cons, List.sum_cons, List.length_cons] at ih ⊢; rw [ih, S_len]; simp; omega
    have e2 : Str.length "" = 0 := by decide +kernel
    rw [e1, e2]
    omega
  · rw [join_none]
    exact q _ H2 e2 (.str _)⟩
end
/-- slots ['_law_row', '_law_many', '_law_turn', '_law_base', '_law_cut', '_law_k'] -/
abbrev r__law_names (K : PySem.W.Frag) : TS :=
    (tSeq (tAsg (tCall (sp__law_taken K) [] E0 (tCons (tVar 0) (tCons (tC (.int 26)) tNil))) (gName 2))
    (tSeq (tAsg (tM1 (rJoinU K) (tC (.str "")) (tLc (iRng1 (tCons (tC (.int 8)) tNil)) (gName 5) tYes (tOp (rIx K) (tC (.str "abcdefghijklmnopqrstuvwxyz")) (tOp (rI (fun _ j => j ≠ 0) fun i j => .int (i.fmod j)) (tOp (rAddU K) (tVar 2) (tOp rMulU (tC (.int 7)) (tVar 5))) (tC (.int 26)))) [5])) (gName 3))
    (tSeq (tAsg (tCall (sp__law_taken K) [] E0 (tCons (tVar 0) (tCons (tC (.int 8)) tNil))) (gName 4))
    (tSeq (tIfS (tTest (tOp (rEqD K) (tCall (sp__law_taken K) [] E0 (tCons (tVar 0) (tCons (tC (.int 3)) tNil))) (tC (.int 2)))) (tRet (tLc (iRng1 (tCons (tVar 1) tNil)) (gName 5) tYes (tSl (rSlU K) (tVar 3) tNoPart (tPart (tOp (rAddU K) (tVar 5) (tC (.int 1))))) [5])) tNext)
    (tRet (tLc (iRng1 (tCons (tVar 1) tNil)) (gName 5) tYes (tOp (rAddU K) (tSl (rSlU K) (tVar 3) tNoPart (tPart (tVar 4))) (tOp (rIx K) (tC (.str "abcdefghijklmnopqrstuvwxyz")) (tOp (rI (fun _ j => j ≠ 0) fun i j => .int (i.fmod j)) (tOp (rAddU K) (tOp (rAddU K) (tVar 2) (tC (.int 3))) (tOp rMulU (tC (.int 5)) (tVar 5))) (tC (.int 26))))) [5]))))))
theorem rd__law_names {K : PySem.W.Frag} (vs : List V) (H : Hp) (Q : VK) (E : XK) (h : sp__law_names K vs H Q E) : r__law_names K { nx := fun _ H' => Q .non H', rt := Q } (start ["_law_row", "_law_many", "_law_turn", "_law_base", "_law_cut", "_law_k"] vs) H := by
  obtain ⟨ar, as, sc, many, rfl, ok, m0, m8, k⟩ := h
  have nk : Nk (Rr K ar as sc) (Dom H) H := Nk.dom ok
  refine q_asgZ (R := Rr K ar as sc) (φ := fun z => 0 ≤ z ∧ z < 26) (z_draw (N := Dom H) rfl e_int (by decide) (by decide)) ok fun t H1 e1 ht => ?_
  -- the base
  refine q_asg (R := Rr K ar as sc) (N := Dom H) (d := .str (S (baseL t))) (e_joinN (EvP.ev ?_) (by rw [base_len]; decide)) e1.ok fun v2 H2 e2 r2 => ?_
  · refine (p_lcR (n := 8) (fun i o => o = some (PyData.str (S [letr (t + 7 * (i : Int))]))) (fun H1 e Q q => q H1 (Le.refl e.ok)) (by decide) (nk.le e1) (fun _ => rfl) fun i D H4 hD e4 nk4 hi => ?_).imp fun d o => ?_
    · exact f_some (e_ixs e_str (e_I (e_add (e_vi rfl) (e_mul e_int (e_vi rfl) (.inl (by decide)))) e_int (by decide)) abc_len (abc_at _))
    · have q := out_det (f := fun _ => true) (g := fun i => PyData.str (S [letr (t + 7 * (i : Int))])) (n := 8) (d := d) o
      rw [q, List.filter_eq_self.mpr (fun _ _ => rfl)]
      unfold baseL
      rw [List.map_map, List.map_map]
      rfl
  cases r2
  refine q_asgZ (R := Rr K ar as sc) (φ := fun z => 0 ≤ z ∧ z < 8) (z_draw (N := Dom H) rfl e_int (by decide) (by decide)) e2.ok fun c H3 e3 hc => ?_
  have e13 := (e1.trans e2).trans e3
  refine q_whenP (R := Rr K ar as sc) (t_eqZ (N := Dom H) (φ := fun z => 0 ≤ z ∧ z < 3) (z_draw (N := Dom H) rfl e_int (by decide) (by decide)) e_int) e3.ok (fun _ H4 e4 => ?_) (fun _ H4 e4 => ?_)
  · refine s_retP (R := Rr K ar as sc) (N := Dom H) (φp := fun d => d = .list (((List.range many.toNat).map fun k => S ((baseL t).take (k + 1))).map .str)) ?_ e4.ok fun d v5 H5 e5 o r5 => ?_
    · refine (p_lcR (n := many) (fun i o => o = some (PyData.str (S ((baseL t).take (i + 1))))) (fun H1 e Q q => ⟨_, rfl, q H1 (Le.refl e.ok)⟩) (by omega) (nk.le (e13.trans e4)) (fun _ => rfl) fun i D H6 hD e6 nk6 hi => ?_).imp fun d o => ?_
      · exact f_some ((e_sls (e_vs rfl) o_none (o_some (e_add (e_vi rfl) e_int)) (by rw [S_len, base_len]; decide)).is (congrArg PyData.str (cutS_take _ (i + 1))))
      · have q := out_det (f := fun _ => true) (g := fun i => PyData.str (S ((baseL t).take (i + 1)))) (n := many.toNat) (d := d) o
        rw [q, List.filter_eq_self.mpr (fun _ _ => rfl), List.map_map]
        rfl
    · subst o
      exact k _ v5 H5 (names1 t _ (by omega)) (by simp; omega) ((e13.trans e4).trans e5) r5
  · refine s_retP (R := Rr K ar as sc) (N := Dom H) (φp := fun d => d = .list (((List.range many.toNat).map fun k : Nat => S ((baseL t).take c.toNat ++ [letr (t + 3 + 5 * k)])).map .str)) ?_ e4.ok fun d v5 H5 e5 o r5 => ?_
    · refine (p_lcR (n := many) (fun i o => o = some (PyData.str (S ((baseL t).take c.toNat ++ [letr (t + 3 + 5 * (i : Int))])))) (fun H1 e Q q => ⟨_, rfl, q H1 (Le.refl e.ok)⟩) (by omega) (nk.le (e13.trans e4)) (fun _ => rfl) fun i D H6 hD e6 nk6 hi => ?_).imp fun d o => ?_
      · refine f_some ((e_adds (i := S ((baseL t).take c.toNat)) ((e_sls (e_vs rfl) o_none (o_some (e_vi rfl)) (by rw [S_len, base_len]; decide)).is (congrArg PyData.str ?_)) (e_ixs e_str (e_I (e_add (e_add (e_vi rfl) e_int) (e_mul e_int (e_vi rfl) (.inl (by decide)))) e_int (by decide)) abc_len (abc_at _)) ?_).is (congrArg PyData.str (S_app _ [_])))
        · obtain ⟨n, rfl⟩ : ∃ n : Nat, c = (n : Int) := ⟨c.toNat, by omega⟩
          exact cutS_take _ n
        · rw [S_len, List.length_take]
          show _ + 1 ≤ 100000
          have := base_len t
          omega
      · have q := out_det (f := fun _ => true) (g := fun i => PyData.str (S ((baseL t).take c.toNat ++ [letr (t + 3 + 5 * (i : Int))]))) (n := many.toNat) (d := d) o
        rw [q, List.filter_eq_self.mpr (fun _ _ => rfl), List.map_map]
        rfl
    · subst o
      exact k _ v5 H5 (names2 t c _ (by omega) hc.1 hc.2) (by simp; omega) ((e13.trans e4).trans e5) r5
end FF
set_option Elab.async false
set_option linter.all false
set_option maxRecDepth 100000
set_option maxHeartbeats 2000000
/-! drawn faces -/
namespace FF
open PySem PySem.Spec PyProof.Rows L2
open Evl (Ex fresh_back)
def rMin2 : List V → Hp → VK → Prop := fun xs H Q => ∃ i j, xs = [.int i, .int j] ∧ Q (.int (if j < i then j else i)) H
def rMax2 : List V → Hp → VK → Prop := fun xs H Q => ∃ i j, xs = [.int i, .int j] ∧ Q (.int (if j > i then j else i)) H
/-- a face as a case wants it -/
structure FaceOk (f : Face) : Prop where
  nm : NameOk f.name
  rk : 0 ≤ f.rank ∧ f.rank ≤ 9
  up : f.signs.Pairwise (· < ·)
  rg : ∀ z ∈ f.signs, 0 ≤ z ∧ z < 1000
  ln : f.signs.length ≤ 100
structure FacesOk (fs : List Face) : Prop where
  ln : fs.length ≤ 8
  nd : (fs.map (·.name)).Nodup
  all : ∀ f ∈ fs, FaceOk f
section
variable {R : Rg} {K : PySem.W.Frag} {σ : L2.St} {H H' Hn : Hp} {N N' : Addr → Prop} {ta tb tc te ti tn tl : TE} {t u : TT} {d : PyData} {D : Ends} {tu tw tz : TS} {φ ψ χ : PyData → Prop} {φz : Int → Prop}
theorem e_min2 {i j : Int} (ha : Ev R ta σ H N (.int i)) (hb : Ev R tb σ H N (.int j)) : Ev R (tCB rMin2 (tCons ta (tCons tb tNil))) σ H N (.int (if j < i then j else i)) := fun H1 e Q q =>
  ha H1 e _ fun u H2 e2 ru => hb H2 (e.trans e2) _ fun v H3 e3 rv => by
    cases ru; cases rv
    exact ⟨i, j, rfl, q _ H3 (e2.trans e3) (.int _)⟩
theorem p_tup3 (ha : EvP R ta σ H N φ) (hb : EvP R tb σ H N ψ) (hc : EvP R tc σ H N χ) (hW : ∀ a, R.W a → N a) : EvP R (tTup (tCons ta (tCons tb (tCons tc tNil)))) σ H N (fun d => ∃ x y z, d = .tuple [x, y, z] ∧ φ x ∧ ψ y ∧ χ z) := fun H1 e Q q =>
  ha H1 e _ fun d1 v1 H2 e2 p1 r1 => hb H2 (e.trans e2) _ fun d2 v2 H3 e3 p2 r2 => hc H3 ((e.trans e2).trans e3) _ fun d3 v3 H4 e4 p3 r3 => ⟨by show 3 ≤ sizeLine; decide, fun p hp => by
    obtain ⟨l5, d5⟩ := new_t hW e4.ok hp (.cons (r1.le (e3.trans e4) hW) (.cons (r2.le e4 hW) (.cons r3 .nil)))
    exact q _ _ _ (((e2.trans e3).trans e4).trans l5) ⟨d1, d2, d3, rfl, p1, p2, p3⟩ d5⟩
/-- for x in a list of data that stands; the place of the list isn't written meanwhile -/
theorem q_forLd {i j : Nat} {v : V} {ds : List PyData} (hσ : σ[i]? = some (some v)) (r : Dt N Hn (.list ds) v) (sub : ∀ a, R.W a → N a) (Pv : Nat → L2.St → Hp → Prop) (h0 : Pv 0 σ H) (hle : ∀ i σ' H', Pv i σ' H' → Le R Hn H')
    (hs : ∀ i x v σ' H', ds[i]? = some x → Pv i σ' H' → Dt N H' x v → tu { D with nx := Pv (i + 1), ct := Pv (i + 1), bk := tz D } (σ'.set j (some v)) H') (hd : ∀ σ' H', Pv ds.length σ' H' → tz D σ' H') : tSeq (tFor (iList K (tVar i)) (gName j) tu) tz D σ H := by
  obtain ⟨a, xs, rfl, na, hl, ra⟩ := r.listy
  have naW : ¬ R.W a := fun w => na (sub a w)
  refine ⟨_, hσ, a, rfl, ⟨xs, SqL.of ((hle 0 σ H h0).ext a _ naW hl)⟩, for_list (D := { D with nx := tz D }) (xs := xs) Pv h0 (fun i σ' H' _ p => SqL.of ((hle i σ' H' p).ext a _ naW hl)) (fun i x σ' H' hi p => ?_) (fun σ' H' p => ?_)⟩
  · obtain ⟨dx, hdx, rx⟩ := ra.getV hi
    exact hs i dx x σ' H' hdx p (rx.le (hle i σ' H' p) sub)
  · rw [ra.length] at p
    exact hd σ' H' p
end
def sp__law_faces (K : PySem.W.Frag) : Sp := fun vs H Q _ => ∃ (ar as : Addr) (sc : List Int) (vp : V) (ls ms : List Int) (most : Int), vs = [.ref ar, vp, .int most] ∧ RowI K ar as sc H ∧ PoolOk ls ms ∧ Dt (fun a => a = ar) H (poolD ls ms) vp ∧ 1 ≤ most ∧ most ≤ 8 ∧
  ∀ (fs : List Face) (v : V) (H' : Hp), FacesOk fs → Le (Rr K ar as sc) H H' → Dt (Dom H) H' (facesD fs) v → Q v H'
/-- slots ['_law_row', '_law_pool_here', '_law_most', '_law_names_here', '_law_found', '_law_name', '_law_many', '_law_letters', '_law_marks', '_law_sign'] -/
abbrev r__law_faces (K : PySem.W.Frag) : TS :=
    (tSeq (tAsg (tCall (sp__law_names K) [] E0 (tCons (tVar 0) (tCons (tOp (rIx K) (tLst (tCons (tCall (sp__law_taken K) [] E0 (tCons (tVar 0) (tCons (tOp (rAddU K) (tVar 2) (tC (.int 1))) tNil))) (tCons (tOp (rAddU K) (tC (.int 1)) (tCall (sp__law_taken K) [] E0 (tCons (tVar 0) (tCons (tCB (rMin2) (tCons (tVar 2) (tCons (tC (.int 4)) tNil))) tNil)))) tNil))) (tCall (sp__law_taken K) [] E0 (tCons (tVar 0) (tCons (tC (.int 2)) tNil)))) tNil))) (gName 3))
    (tSeq (tAsg (tLst tNil) (gName 4))
    (tSeq (tFor (iList K (tVar 3)) (gName 5) (tSeq (tAsg (tOp (rAddU K) (tC (.int 2)) (tCall (sp__law_taken K) [] E0 (tCons (tVar 0) (tCons (tC (.int 3)) tNil)))) (gName 6))
    (tSeq (tAsg (tLc (iList K (tOp (rIx K) (tVar 1) (tC (.int 0)))) (gName 9) (tTest (tOp (rI0 fun i j => .bl (decide (j < i))) (tCall (sp__law_taken K) [] E0 (tCons (tVar 0) (tCons (tVar 6) tNil))) (tC (.int 0)))) (tVar 9) [9]) (gName 7))
    (tSeq (tAsg (tLc (iList K (tOp (rIx K) (tVar 1) (tC (.int 1)))) (gName 9) (tTest (tOp (rI0 fun i j => .bl (decide (j < i))) (tCall (sp__law_taken K) [] E0 (tCons (tVar 0) (tCons (tC (.int 3)) tNil))) (tC (.int 0)))) (tVar 9) [9]) (gName 8))
    (tDrop (tBM K "list" rAppend (tVar 4) (tCons (tTup (tCons (tVar 5) (tCons (tOp (rIx K) (tLst (tCons (tCall (sp__law_taken K) [] E0 (tCons (tVar 0) (tCons (tC (.int 3)) tNil))) (tCons (tCall (sp__law_taken K) [] E0 (tCons (tVar 0) (tCons (tC (.int 10)) tNil))) tNil))) (tCall (sp__law_taken K) [] E0 (tCons (tVar 0) (tCons (tC (.int 2)) tNil)))) (tCons (tCB (rTupU K) (tCons (tOp (rAddU K) (tVar 7) (tVar 8)) tNil)) tNil)))) tNil)))))))
    (tRet (tVar 4)))))
theorem keep_drawn {K : PySem.W.Frag} {ar as : Addr} {sc : List Int} {σ : L2.St} {H : Hp} {N N0 : Addr → Prop} {tl tm : TE} {j : Nat} {vs : List Nat} {ns : List Int} {many : Int} (h : Ev (Rr K ar as sc) tl σ H N0 (.list (ns.map .int))) (s0 : ∀ a, a = ar → N0 a) (hz : ns.length ≤ 40000) (nk : Nk (Rr K ar as sc) N H)
    (hw : ∀ x, wipe ((wipe σ vs).set j (some x)) vs = wipe σ vs) (h0 : ∀ x, ((wipe σ vs).set j (some x))[0]? = some (some (.ref ar))) (hj : ∀ x, ((wipe σ vs).set j (some x))[j]? = some (some x)) (hm : ∀ x H1, Ev (Rr K ar as sc) tm ((wipe σ vs).set j (some x)) H1 No (.int many)) (m0 : 0 < many) (m1 : many < 1000000) :
    EvP (Rr K ar as sc) (tLc (iList K tl) (gName j) (tTest (tOp (rI0 fun i j => .bl (decide (j < i))) (tCall (sp__law_taken K) [] E0 (tCons (tVar 0) (tCons tm tNil))) (tC (.int 0)))) (tVar j) vs) σ H N (fun d => ∃ ks : List Int, d = .list (ks.map .int) ∧ ks.Sublist ns) := by
  refine (p_lcL (fun i o => ∃ x, (ns.map PyData.int)[i]? = some x ∧ (o = some x ∨ o = none)) h s0 (by rw [List.length_map]; exact hz) nk hw fun i x v D H1 hD e1 nk1 hx r => ?_).imp fun d o => ?_
  · obtain ⟨z, hz1⟩ : ∃ z, x = .int z := by
      rw [List.getElem?_map] at hx
      cases hi : ns[i]? with
      | none => rw [hi] at hx; cases hx
      | some z => rw [hi] at hx; cases hx; exact ⟨z, rfl⟩
    subst hz1
    cases r
    have base := f_maybe (N := fun a => a = D ∨ N a) (d := .int z) (t_gtZ (R := Rr K ar as sc) (N := No) (j := 0) (φ := fun z => 0 ≤ z ∧ z < many) (z_draw (N := No) (h0 (.int z)) (hm (.int z) H1) m0 (by omega)) e_int) (e_vi (hj (.int z)))
    exact fun H2 e2 Qn Q qn q => base H2 e2 Qn Q (fun H3 e3 p => qn H3 e3 ⟨_, hx, p⟩) (fun d v H3 e3 p r => q d v H3 e3 ⟨_, hx, p⟩ r)
  · obtain ⟨es, rfl, hs⟩ := out_sub o
    obtain ⟨ks, hk, rfl⟩ := List.sublist_map_iff.mp hs
    exact ⟨ks, rfl, hk⟩
theorem rd__law_faces {K : PySem.W.Frag} (vs : List V) (H : Hp) (Q : VK) (E : XK) (h : sp__law_faces K vs H Q E) : r__law_faces K { nx := fun _ H' => Q .non H', rt := Q } (start ["_law_row", "_law_pool_here", "_law_most", "_law_names_here", "_law_found", "_law_name", "_law_many", "_law_letters", "_law_marks", "_law_sign"] vs) H := by
  obtain ⟨ar, as, sc, vp, ls, ms, most, rfl, ok, po, dp, m0, m8, k⟩ := h
  have nk : Nk (Rr K ar as sc) (Dom H) H := Nk.dom ok
  have sub : ∀ a, (Rr K ar as sc).W a → a = ar := fun a w => w
  have drw : ∀ (σ : L2.St) (m : Int) (H2 : Hp), σ[0]? = some (some (.ref ar)) → 0 < m → m < 1000000000 → EvZ (Rr K ar as sc) (tCall (sp__law_taken K) [] E0 (tCons (tVar 0) (tCons (tC (.int m)) tNil))) σ H2 (fun z => 0 ≤ z ∧ z < m) :=
    fun σ m H2 hσ h0 h1 => z_draw (N := Dom H) hσ e_int h0 h1
  -- the names
  refine q_asgP (R := Rr K ar as sc) (N := Dom H) (φp := fun d => ∃ ns : List Str, d = .list (ns.map .str) ∧ NamesOk ns ∧ ns.length ≤ 8) ?_ ok fun dn vn H1 e1 on rn => ?_
  · refine fun H1 e1 Q q => ⟨_, rfl, ?_⟩
    refine (z_pick2 (R := Rr K ar as sc) (χ := fun z => 0 ≤ z ∧ z ≤ 8) (H := H) ?_ ?_ (drw _ 2 H rfl (by decide) (by decide))) H1 e1 _ fun many H2 e2 hm => ?_
    · exact (z_draw (N := Dom H) rfl (e_add (e_vi rfl) e_int) (by omega) (by omega)).imp fun z q => by omega
    · refine z_add (φ := fun z => z = 1) (ψ := fun z => 0 ≤ z ∧ z < 4) (z_of (N := Dom H) e_int rfl) ((z_draw (N := Dom H) rfl (e_min2 (e_vi rfl) e_int) ?_ ?_).imp fun z q => ?_) fun i j p q => by omega
      · split <;> omega
      · split <;> omega
      · split at q <;> omega
    · refine ⟨ar, as, sc, many, rfl, e2.ok, hm.1, hm.2, fun ns v H3 hns hl e3 r3 => ?_⟩
      exact q _ v H3 (e2.trans e3) ⟨ns, rfl, hns, by omega⟩ (r3.weak fun a ha => ((nk.le e1).le e2).domle a ha)
  obtain ⟨ns, rfl, hns, hnl⟩ := on
  refine q_asgNew (R := Rr K ar as sc) e1.ok fun p H2 hp e2 h2 => ?_
  have hp0 : H p = none := e1.back p hp
  have pW : ¬ (Rr K ar as sc).W p := notW_of ok hp0
  refine q_forLd (R := Rr K ar as sc) (Hn := H1) rfl rn nk.sub (fun i σ' H' => ∃ (fs : List Face) (vs : List V) (x5 x6 x7 x8 x9 : Option V), σ' = [some (.ref ar), some vp, some (.int most), some vn, some (.ref p), x5, x6, x7, x8, x9] ∧ Le (Rr K ar as sc) H1 H' ∧ H' p = some (.lst vs) ∧
      DtA (fun a => a = p ∨ Dom H a) H' (fs.map faceD) vs ∧ fs.map (·.name) = ns.take i ∧ ∀ f ∈ fs, FaceOk f)
    ⟨[], [], none, none, none, none, none, rfl, e2, h2, .nil, rfl, fun f hf => nomatch hf⟩ (fun i σ' H' ⟨_, _, _, _, _, _, _, _, q, _⟩ => q) ?_ ?_
  · rintro i x v σ' H' hx ⟨fs, vs, x5, x6, x7, x8, x9, rfl, e3, h3, r3, hn3, hf3⟩ rx
    rw [List.getElem?_map] at hx
    cases hi : ns[i]? with
    | none => rw [hi] at hx; cases hx
    | some nm =>
    rw [hi] at hx
    cases hx
    cases rx
    have e13 := e1.trans e3
    have dp3 := dp.le e13 sub
    have nkp : Nk (Rr K ar as sc) (fun a => a = p ∨ Dom H a) H' := nk_more nk e13 h3
    have Np : ∀ a, (Rr K ar as sc).W a → (a = p ∨ Dom H a) := nkp.sub
    refine q_asgZ (R := Rr K ar as sc) (φ := fun z => 2 ≤ z ∧ z < 5) (z_add (φ := fun z => z = 2) (z_of (N := Dom H) e_int rfl) (drw _ 3 H' rfl (by decide) (by decide)) fun i j p q => by omega) e3.ok fun many H4 e4 hm => ?_
    refine q_asgP (R := Rr K ar as sc) (N := fun a => a = p ∨ Dom H a) (φp := fun d => ∃ ks : List Int, d = .list (ks.map .int) ∧ ks.Sublist ls) ?_ e4.ok fun d7 v7 H5 e5 o7 r7 => ?_
    · exact keep_drawn (N0 := fun a => a = ar) (e_ixt (ds := [PyData.list (ls.map .int), PyData.list (ms.map .int)]) (e_var rfl (dp3.le e4 sub) sub) e_int sub rfl) (fun _ h => h) (by have := po.ll; omega) (nkp.le e4) (fun _ => rfl) (fun _ => rfl) (fun _ => rfl) (fun x H1 => e_vi rfl) (by omega) (by omega)
    refine q_asgP (R := Rr K ar as sc) (N := fun a => a = p ∨ Dom H a) (φp := fun d => ∃ ks : List Int, d = .list (ks.map .int) ∧ ks.Sublist ms) ?_ e5.ok fun d8 v8 H6 e6 o8 r8 => ?_
    · exact keep_drawn (N0 := fun a => a = ar) (e_ixt (ds := [PyData.list (ls.map .int), PyData.list (ms.map .int)]) (e_var rfl ((dp3.le e4 sub).le e5 sub) sub) e_int sub rfl) (fun _ h => h) (by have := po.ml; omega) (nkp.le (e4.trans e5)) (fun _ => rfl) (fun _ => rfl) (fun _ => rfl) (fun x H1 => e_int) (by decide) (by decide)
    obtain ⟨kl, rfl, sl⟩ := o7
    obtain ⟨km, rfl, sm⟩ := o8
    have e36 := ((e3.trans e4).trans e5).trans e6
    have h6 := ((e4.trans e5).trans e6).ext p _ pW h3
    have r6 := ((r3.le e4 Np).le e5 Np).le e6 Np
    have fl : fs.length ≤ 8 := by
      have q := congrArg List.length hn3
      rw [List.length_map, List.length_take] at q
      omega
    refine s_appP (R := Rr K ar as sc) (N := fun a => a = p ∨ Dom H a) (φp := fun d => ∃ x y z, d = .tuple [x, y, z] ∧ x = .str nm ∧ (∃ w, y = .int w ∧ 0 ≤ w ∧ w < 10) ∧ z = .tuple ((kl ++ km).map .int)) rfl h6 pW ?_ e6.ok (by rw [r6.length, List.length_map]; omega) fun d v H7 e7 o r7 h7 => ?_
    · refine p_tup3 (φ := fun x => x = .str nm) (ψ := fun y => ∃ w, y = .int w ∧ 0 ≤ w ∧ w < 10) (χ := fun z => z = .tuple ((kl ++ km).map .int)) (Ev.p (e_vs rfl)) (EvZ.p ?_) (Ev.p ((e_tuple (e_addl (e_var rfl (r7.le e6 Np) Np) (e_var rfl r8 Np) ?_ (nkp.le ((e4.trans e5).trans e6))) Np).is (by rw [List.map_append]))) Np
      · refine z_pick2 ((drw _ 3 H6 rfl (by decide) (by decide)).imp fun z q => by omega) ((drw _ 10 H6 rfl (by decide) (by decide)).imp fun z q => by omega) (drw _ 2 H6 rfl (by decide) (by decide))
      · have := sl.length_le
        have := sm.length_le
        have := po.ll
        have := po.ml
        simp only [List.length_map]
        omega
    · obtain ⟨_, _, _, rfl, rfl, ⟨w, rfl, w0, w9⟩, rfl⟩ := o
      refine ⟨fs ++ [⟨nm, w, kl ++ km⟩], vs ++ [v], _, _, _, _, _, rfl, (e36.trans e7).put hp h7, upd_same, ?_, ?_, ?_⟩
      · rw [List.map_append]
        exact ((r6.le e7 Np).append (.one r7)).put (.inl rfl) h7
      · rw [List.map_append, hn3, List.take_add_one, hi]
        rfl
      · intro f hf
        rcases List.mem_append.mp hf with q | q
        · exact hf3 f q
        · simp at q
          subst q
          have hs := hns.2 nm (List.mem_of_getElem? hi)
          refine ⟨hs, ⟨w0, by show w ≤ 9; omega⟩, ?_, ?_, ?_⟩
          · refine List.pairwise_append.mpr ⟨po.lr.sublist sl, po.mr.sublist sm, fun a ha b hb => ?_⟩
            have := po.lb a (sl.subset ha)
            have := po.mb b (sm.subset hb)
            omega
          · intro z hz
            rcases List.mem_append.mp hz with q | q
            · have := po.lb z (sl.subset q); omega
            · have := po.mb z (sm.subset q); omega
          · have := sl.length_le
            have := sm.length_le
            have := po.ll
            have := po.ml
            show (kl ++ km).length ≤ 100
            rw [List.length_append]
            omega
  · rintro σ' H' ⟨fs, vs, x5, x6, x7, x8, x9, rfl, e3, h3, r3, hn3, hf3⟩
    refine ⟨_, rfl, k fs _ H' ⟨?_, ?_, hf3⟩ (e1.trans e3) (.lst (nk.fresh hp0) h3 (r3.weak fun a ha => .inr ha))⟩
    · have q := congrArg List.length hn3
      rw [List.length_map, List.length_take] at q
      rw [List.length_map] at q
      omega
    · rw [hn3]
      exact hns.1.sublist (List.take_sublist ..)
end FF
set_option Elab.async false
set_option linter.all false
set_option maxRecDepth 100000
set_option maxHeartbeats 2000000
/-! own errors whose __init__ says super().__init__(a text made of the field) and keeps the field -/
namespace FF
open PySem PySem.W PySem.Calls PyProof.Rows PySem.HandSPX L2
/-- self and one more -/
def xA (y : Str) (p1 p2 : Pos) : Arguments := { posonlyargs := [], args := [{ arg := "self", annotation := none, pos := p1 }, { arg := y, annotation := none, pos := p2 }], vararg := none, kwonlyargs := [], kw_defaults := [], kwarg := none, defaults := [] }
/-- a text made of parts -/
structure XM where
  a : Expr
  b : Expr
  r : List Expr
  p : Pos
def XM.e (m : XM) : Expr := .JoinedStr (m.a :: m.b :: m.r) m.p
def xCall (msg : XM) (p0 p1 p2 p3 : Pos) : Expr := .Call (.Attribute (.Call (.Name "super" p0) [] [] p1) "__init__" p2) [msg.e] [] p3
/-- the call is a plain method call -/
def XCallEq (msg : XM) (p0 p1 p2 p3 : Pos) : Prop := ∀ env : Env, ∃ pl, eval (xCall msg p0 p1 p2 p3) env = (do
      let ov ← attributeBase (.Call (.Name "super" p0) [] [] p1) "__init__" env (eval (.Call (.Name "super" p0) [] [] p1) env)
      standAt p2.atName
      let __x ← holding [ov] (getMethod ov "__init__" pl)
      match __x with
        | (f, first) => callWith p3 f first (backTo p3 (starEach [msg.e] env)) [])
def xB (y : Str) (msg : XM) (p0 p1 p2 p3 p4 q1 q2 q3 q4 : Pos) : List Stmt := [.Expr (xCall msg p0 p1 p2 p3) p4, .Assign [.Attribute (.Name "self" q1) y q2] (.Name y q3) q4]
def xS (y : Str) : Scope := { kind := .function, names := [(PySem.Str.ofString "self", .local), (y, .local), (PySem.Str.ofString "__class__", .free), (PySem.Str.ofString "super", .globalImplicit)], isGenerator := false, isCoroutine := false, more := [] }
/-- the field's name -/
structure Fld (y : Str) : Prop where
  ks : List.lookup (PySem.Str.ofString "self") (xS y).names = some .local
  ky : List.lookup y (xS y).names = some .local
  kc : List.lookup (PySem.Str.ofString "__class__") (xS y).names = some .free
  ku : List.lookup (PySem.Str.ofString "super") (xS y).names = some .globalImplicit
  ne : y ≠ PySem.Str.ofString "self"
  d : (y == ("__debug__" : Str)) = false
  b : ∀ (q : Str) (p1 p2 : Pos) (body : List Stmt) (doc pm cdv ct x v : Value) (an : Option Addr) (cc : Addr), bindArgs (ksFn "__init__" q (xA y p1 p2) body (xS y) .none .none doc pm an cdv ct cc) ⟨[x, v], []⟩ = pure [(PySem.Str.ofString "self", x), (y, v)]
theorem fld_place : Fld "place" := ⟨by decide +kernel, by decide +kernel, by decide +kernel, by decide +kernel, by decide +kernel, by decide +kernel, fun _ _ _ _ _ _ _ _ _ _ _ _ => by first | rfl | with_unfolding_all rfl⟩
theorem fld_row : Fld "row" := ⟨by decide +kernel, by decide +kernel, by decide +kernel, by decide +kernel, by decide +kernel, by decide +kernel, fun _ _ _ _ _ _ _ _ _ _ _ _ => by first | rfl | with_unfolding_all rfl⟩
/-- what the text of an error says of its field -/
def MsgOk (prog : Program) (w : World) (y : Str) (msg : XM) (v : Value) : Prop := ∀ (A : Around) (E : Value → Shared → Prop) (s : Shared) (env : Env) (m : Str → Option Value) (Q : Value → Shared → Prop),
    env.scope.kind = .function → env.kindOf y = some .local → s.heap.Ns env.locals m → m y = some v →
    (∀ (z : Str) (t tk : Nat), Q (.str z t) { s with toks := tk }) → wpAny (model prog w) A (eval msg.e env) Q E s
/-- what the written part says of an error class -/
structure SupTxt (prog : Program) (K : Frag) (mg : Str → Option Value) (nm : Str) (y : Str) (msg : XM) (C fI : Addr) : Prop where
  gC : mg nm = some (.ref C)
  gS : mg "super" = none
  cls : ∃ nm q N bs bm sn sub ab col dd k0 k1 k2 k3 k5, K.lookup C = some (excClassObj nm q C N bs bm true sn sub ab col dd k0 k1 k2 k3 k5 "ValueError.__new__") ∧ refsVE bm = true
  sa : findIn K (.ref C) "__setattr__" = some (some (.builtin "object.__setattr__"))
  ga : findIn K (.ref C) "__getattribute__" = some (some (.builtin "BaseException.__getattribute__"))
  gg : findIn K (.ref C) "__getattr__" = some none
  noN : findIn K (.ref C) y = some none
  iC : findIn K (.ref C) "__init__" = some (some (.ref fI))
  tC : typeIn K (.ref fI) = some (.type "function")
  kC : keepIn K (.ref C) = true
  exC : subIn K (.ref C) (.type "BaseException") = some true
  exV : subIn K (.ref C) (.type "ValueError") = some true
  tyC : typeIn K (.ref C) = some (.type "type")
  hdC : hasDictIn K C = true
  own : mroIn K C (.ref C) = some true
  sup : ks_superIn K C C "__init__" = some (some (.builtin "ValueError.__init__"))
  any : nsIn K cStatics "thirdparty.any" = some none
  xin : ∃ bmB, ExcBaseFacts "ValueError" "ValueError.__new__" "ValueError.__init__" bmB ∧ excInitIn K C bmB "ValueError.__new__" = true
  noS : (prog.main.scope.names.lookup (PySem.Str.ofString "super")).isSome = false
  fn : ∃ (q : Str) (oc : Value) (od : Option Addr) (doc pm : Value) (an : Option Addr) (cda cc : Addr) (ct : Value) (osl : Array (Option Value)) (p1 p2 r0 r1 r2 r3 r4 q1 q2 q3 q4 : Pos),
    K.lookup fI = some ⟨oc, od, .func (ksFn "__init__" q (xA y p1 p2) (xB y msg r0 r1 r2 r3 r4 q1 q2 q3 q4) (xS y) .none .none doc pm an (.ref cda) ct cc), osl⟩ ∧ codeIn K (.ref cda) q = true ∧
    (∃ cl cld csl, K.lookup cc = some ⟨cl, cld, .cell (some (.ref C)), csl⟩) ∧
    (∃ ccl cdd vs ccs file tf, K.lookup cda = some ⟨ccl, cdd, .fields vs, ccs⟩ ∧ vs[2]? = some (.str file tf) ∧ (prog.main.file == file) = true) ∧ XCallEq msg r0 r1 r2 r3
section
variable {prog : Program} {w : World} {A : Around} {E : Value → Shared → Prop} {K : Frag} {mg : Str → Option Value} {C fI : Addr} {nm y : Str} {msg : XM}
/-- a made error -/
structure XMade (h h' : Heap) (e C d : Addr) (y : Str) (v : Value) : Prop where
  keep : ∀ b o, h.get? b = some o → h'.get? b = some o
  new : h.objs.size ≤ e
  obj : ∃ oe vs, h'.get? e = some oe ∧ oe.cls = .ref C ∧ oe.dict = some d ∧ oe.data = .fields vs ∧ vs[1]? = some .none
  dbig : h.objs.size ≤ d
  dne : d ≠ e
  ns : h'.Ns1 d (fun z => if z = y then some v else none)
theorem sup_init (T : SupTxt prog K mg nm y msg C fI) (hf : Fld y) {v : Value} (hm : MsgOk prog w y msg v) {hp : Heap} {g : Array GenState} {dr : Drawn} {tk : Nat} {os : OsState} {R : Result → Shared → Prop}
    (M : L2.Mod K mg hp) (hroom : A.depth < recursionLimit)
    (hq : ∀ h' tk' e d, e = hp.objs.size + 1 → XMade hp h' e C d y v → R (.ok (.ret .none)) ⟨h', g, dr, tk', os⟩) :
    codeAny (model prog w) A (.call (.ref fI) ⟨[.ref (hp.objs.size + 1), v], []⟩) R ⟨(hp.push (kdv_tup [v])).push (excO C hp.objs.size), g, dr, tk, os⟩ := by
  obtain ⟨q, oc, od, doc, pm, an, cda, cc, ct, osl, p1, p2, r0, r1, r2, r3, r4, q1, q2, q3, q4, ho, hcd, ⟨cl, cld, csl, hcc⟩, ⟨ccl, cdd, vs, ccs, file, tf, hca, hvs, hfile⟩, hce⟩ := T.fn
  obtain ⟨nm', q', N, bs, bm, sn, sub, ab, col, dd, k0, k1, k2, k3, k5, hC, hbm⟩ := T.cls
  obtain ⟨bmB, hbF, hxi⟩ := T.xin
  have hcl : clsIn K C = some { name := nm', bases := bs, mro := .ref C :: bm, ns := N, qualname := q', hasDict := true, slotNames := sn, subclasses := sub, abstract := ab, collection := col, hasDel := false } := by unfold clsIn; rw [hC] <;> rfl
  have k0 : ∀ b o, hp.get? b = some o → ((hp.push (kdv_tup [v])).push (excO C hp.objs.size)).get? b = some o := fun b o e => Heap.get?_push_of_some _ (Heap.get?_push_of_some _ e)
  have hx0 : ((hp.push (kdv_tup [v])).push (excO C hp.objs.size)).get? (hp.objs.size + 1) = some (excO C hp.objs.size) := by heap_get
  generalize hs0 : (hp.push (kdv_tup [v])).push (excO C hp.objs.size) = hh at k0 hx0 ⊢
  have sz : hh.objs.size = hp.objs.size + 2 := by rw [← hs0, Heap.size_push, Heap.size_push]
  have X₀ : K.In hh := M.kin.keeps k0
  refine ks_codeAny_call_defAt (binds := [("self", .ref (hp.objs.size + 1)), (y, v)]) hroom (X₀ _ _ ho) rfl (M.nolimit.keeps k0) ?_ rfl ?_ ?_ ?_ (fun h₁ hn kk => ?_) rfl rfl rfl
  · simp only [codeIn, hca] at hcd
    revert hcd
    rcases hv : vs.toList with _ | ⟨a0, _ | ⟨a1, r⟩⟩
    · exact fun h => nomatch h
    · exact fun h => nomatch h
    · intro h
      obtain ⟨n1, t1, rfl, e⟩ : ∃ n1 t1, a1 = Value.str n1 t1 ∧ n1 = q := by
        cases a1 <;> first | exact ⟨_, _, rfl, by simpa using h⟩ | (simp at h)
      subst e
      refine ⟨cda, _, vs, t1, rfl, X₀ _ _ hca, rfl, ?_⟩
      rw [← Array.getElem?_toList, hv]
      rfl
  · exact BindsTo.of_eq (hf.b ..)
  · intro z hz
    simp only [xS, List.mem_cons, List.not_mem_nil, or_false] at hz
    rcases hz with rfl | rfl | rfl | rfl <;> exact fun h => nomatch h
  · intro z hz
    simp only [List.mem_cons, List.not_mem_nil, or_false] at hz
    rcases hz with rfl | rfl
    · rfl
    · exact hf.ky
  · have z : hp.objs.size + 1 < hh.objs.size := by rw [sz]; omega
    have kp : ∀ b o, hp.get? b = some o → h₁.get? b = some o := fun b o e => kk b o (k0 b o e)
    have F₁ : Fr hp hh.objs.size h₁ (fun x => List.lookup x [(y, v), (("self" : Str), Value.ref (hp.objs.size + 1))]) := ⟨hn, kp, by rw [sz]; omega⟩
    have hx₁ := kk _ _ hx0
    have N₁ : News hp hh.objs.size h₁ [(hp.objs.size + 1, excO C hp.objs.size)] := fun p h => by
      rcases List.mem_singleton.1 h with rfl
      refine ⟨hx₁, by rw [sz]; exact (by omega : hp.objs.size + 1 ≠ hp.objs.size + 2), ?_⟩
      cases e : hp.get? (hp.objs.size + 1) with
      | none => rfl
      | some o => exact absurd (Heap.lt_size e) (Nat.not_lt.2 (Nat.le_succ _))
    have X₁ : K.In h₁ := M.kin.keeps kp
    have hC₁ : h₁.get? C = some _ := X₁ _ _ hC
    obtain ⟨mb, hb1, hb2⟩ := M.blt
    refine ks_wpAt_execs_cons (ks_wpAt_Expr_any ?_ rfl rfl)
    obtain ⟨pl, he⟩ := hce (callEnv (ksFn (Str.ofString "__init__") q (xA y p1 p2) (xB y msg r0 r1 r2 r3 r4 q1 q2 q3 q4) (xS y) Value.none Value.none doc pm an (Value.ref cda) ct cc) hh.objs.size fI)
    refine ks_wpAt_MethodCall (pl := pl) ?_ he
    refine ks_wpAt_super_base hf.ku hf.kc (by decide +kernel) rfl (X₁ _ _ ho) rfl rfl rfl (X₁ _ _ hca) rfl hvs hfile T.noS ?_
    refine ks_loadName_global rfl hf.ku ?_
    refine Calls.loadGlobal_builtin (M.glob.keeps kp) T.gS (hb1.keeps kp) ((hb2 _ (by decide)).trans (by decide +kernel)) ⟨rfl, ?_⟩
    refine wpAny_loadName_free rfl hf.kc (c := cc) (v := .ref C) rfl ⟨_, X₁ _ _ hcc, rfl⟩ ?_
    have hself : List.lookup (PySem.Str.ofString "self") [(y, v), (PySem.Str.ofString "self", Value.ref (hp.objs.size + 1))] = some (Value.ref (hp.objs.size + 1)) := by
      have e : (PySem.Str.ofString "self" == y) = false := by
        rw [beq_eq_false_iff_ne]
        exact Ne.symm hf.ne
      simp only [List.lookup, e, beq_self_eq_true]
    refine wpAny_loadName_local rfl hf.ks hn hself ?_
    refine ks_wpAny_isType_cls hC₁ rfl ⟨rfl, ?_⟩
    refine ks_wpAny_call_super hC₁ rfl hx₁ rfl (fun c e => nomatch e) (looks_subIn X₁ T.own) fun h₂ hso k₂ => ?_
    have xl : hp.objs.size + 1 < h₁.objs.size := Heap.lt_size hx₁
    have Ll : hh.objs.size < h₁.objs.size := hn.lt
    have F₂ : Fr hp hh.objs.size h₂ (fun x => List.lookup x [(y, v), (PySem.Str.ofString "self", Value.ref (hp.objs.size + 1))]) := ⟨hn.keeps k₂, fun b o e => k₂ b o (kp b o e), by rw [sz]; omega⟩
    have hpn : ∀ a, hp.objs.size ≤ a → hp.get? a = none := fun a ha => by
      cases e : hp.get? a with
      | none => rfl
      | some o => exact absurd (Heap.lt_size e) (Nat.not_lt.2 ha)
    have N₂ : News hp hh.objs.size h₂ [(h₁.objs.size, ks_superObj C (hp.objs.size + 1) C), (hp.objs.size + 1, excObj C hp.objs.size none .none)] := fun p h => by
      rcases List.mem_cons.1 h with rfl | h
      · exact ⟨hso, Nat.ne_of_gt Ll, hpn _ (by omega)⟩
      · rcases List.mem_singleton.1 h with rfl
        exact ⟨k₂ _ _ hx₁, by rw [sz]; exact (by omega : hp.objs.size + 1 ≠ hp.objs.size + 2), hpn _ (Nat.le_succ _)⟩
    refine kxs_method kxs_ValueError F₂ M.kin N₂ List.mem_cons_self (InstAt.of_exc0 N₂ (List.mem_cons_of_mem _ List.mem_cons_self)) T.any T.sup T.exV (by decide +kernel) fun u h₃ F₃ N₃ lt₃ => ?_
    refine kxs_callWith1 N₃ List.mem_cons_self ?_ rfl rfl
    have hyv : List.lookup y [(y, v), (PySem.Str.ofString "self", Value.ref (hp.objs.size + 1))] = some v := by simp only [List.lookup, beq_self_eq_true]
    refine PyProof.Rows.spliced_more (hm _ _ _ _ _ _ rfl hf.ky F₃.ns hyv fun z zt ztk => ?_) rfl
    refine PyProof.Rows.spliced_none ⟨kxs_at N₃ List.mem_cons_self, ?_⟩
    have ux : hp.objs.size + 1 < u := lt₃ _ (List.mem_cons_of_mem _ List.mem_cons_self)
    refine kxs_call F₃ M.kin N₃ hbF hxi List.mem_cons_self (UpdF.tail (Nat.ne_of_gt ux) (UpdF.tail (Nat.ne_of_gt xl) (UpdF.head (fun _ h => nomatch h)))) (by rw [sizeLine_eq]; exact (by decide : 1 ≤ 16777216)) fun t' h₄ F₄ N₄ lt₄ => ?_
    have hx₄ : h₄.get? (hp.objs.size + 1) = some (excObj C t' none .none) := (N₄ _ (List.mem_cons_of_mem _ (List.mem_cons_of_mem _ (List.mem_cons_of_mem _ List.mem_cons_self)))).1
    have X₄ : K.In h₄ := M.kin.keeps F₄.keep
    show PySem.wpAt _ _ _ (execs (_ :: _) _) _ _ _
    refine wpAt_of_wpAny ?_
    refine wpAny_execs_cons (plainObj_wpAny_Assign_Attribute ?_)
    refine wpAny_Name (wpAny_loadName_local rfl hf.ky F₄.ns hyv ?_) hf.d
    refine wpAny_Name (wpAny_loadName_local rfl hf.ks F₄.ns hself ?_) (by decide +kernel)
    refine set_plain X₄ (ox := excObj C t' none .none) (od := none) ⟨hx₄, rfl, rfl, trivial⟩ T.sa ?_
    refine exc_osa X₄ hx₄ hcl (show refsVE (.ref C :: bm) = true from hbm) rfl T.noN (fun h₅ tk₅ dx k₅ dn dne hx₅ hn₅ => ?_)
    show wpAny _ _ (execs _ _) _ _ _
    refine wpAny_execs_nil (hq h₅ tk₅ _ dx rfl ⟨fun b o e => k₅ b o (Nat.ne_of_lt (Nat.lt_succ_of_lt (Heap.lt_size e))) (F₄.keep b o e), Nat.le_succ _, ⟨_, _, hx₅, rfl, rfl, rfl, rfl⟩, ?_, dne, hn₅⟩)
    exact Nat.le_of_lt (Nat.lt_of_lt_of_le (Nat.lt_of_succ_lt (Heap.lt_size hx₄)) dn)
theorem x_made (T : SupTxt prog K mg nm y msg C fI) (hf : Fld y) {v : Value} (hm : MsgOk prog w y msg v) {s : Shared} {R : Result → Shared → Prop} (M : L2.Mod K mg s.heap) (hroom : A.depth + 1 < recursionLimit)
    (hq : ∀ h' tk e d, XMade s.heap h' e C d y v → R (.ok (.ret (.ref e))) { s with heap := h', toks := tk }) :
    codeAny (model prog w) A (.call (.ref C) ⟨[v], []⟩) R s := by
  obtain ⟨nm', q, N, bs, bm, sn, sub, ab, col, dd, k0, k1, k2, k3, k5, hC, hbm⟩ := T.cls
  obtain ⟨hp, g, dr, tk, os⟩ := s
  refine call_own F.excBase_ValueError (fun X => refsVE_contains X bm hbm) (M.kin _ _ hC) (looks_findIn M.kin T.iC) (fun self => bind_fn M.kin self T.tC) (by rw [sizeLine_eq]; exact (by decide : 1 ≤ 16777216)) ?_
  refine sup_init T hf hm M ?_ fun h' tk' e d he H => ?_
  · show A.depth + 1 < recursionLimit
    exact hroom
  · subst he
    exact ⟨rfl, hq h' tk' _ d H⟩
theorem relO_x {v : V} {v' : Value} (r : RelV v v') (y f : Str) : RelO (List.lookup f [(y, v)]) (if f = y then some v' else none) := by
  by_cases hw : f = y
  · subst hw
    rw [if_pos rfl]
    have q : List.lookup f [(f, v)] = some v := by simp [List.lookup]
    rw [q]
    exact r
  · rw [if_neg hw]
    have qw : (f == y) = false := by simpa using hw
    have q2 : List.lookup f [(y, v)] = none := by simp [List.lookup, qw]
    rw [q2]
    trivial
end
section
variable {X : Cx} {C fI : Addr} {nm y : Str} {msg : XM}
/-- E(e) -/
def tMkX (prog : Program) (w : World) (C : Addr) (y : Str) (msg : XM) (ta : TA) : L2.St → Hp → XK → Prop := fun σ H Q => ta σ H fun vs H1 => ∃ v, vs = [v] ∧ (∀ v', RelV v v' → MsgOk prog w y msg v') ∧ ∀ d, H1 d = none → Q (.ref C) (some d) (upd H1 d (.xd [(y, v)]))
theorem pmk_x {a : Expr} {ta : TA} {p pos : Pos} {k : Nat} (T : SupTxt X.prog X.K X.mg nm y msg C fI) (hf : Fld y) (hr : Room k X.A) (ha : PA X [a] ta) (hg : Gl X nm) (hnd : (nm == ("__debug__" : Str)) = false)
    (he : starEach (a :: []) X.env = (false, eval a X.env) :: starEach [] X.env := by rfl) (hpl : (backTo pos (starEach [] X.env)).any (·.1) = false := by rfl) :
    PMk X (.Call (.Name nm p) [a] [] pos) (tMkX X.prog X.w C y msg ta) := by
  intro pins s σ H Q I h
  refine wpAny_Call_Name_kw (ld_glob I hg T.gC ?_ hnd)
  refine PySem.W.callWith_K (h₀ := X.base) I.ok.mod.kin T.kC (thn (ha.run pos pins s σ H _ I h) fun us s1 hh => ?_) he hpl
  obtain ⟨vs, H1, I1, r1, v, ev, hm, q1⟩ := hh
  subst ev
  refine ⟨I1.kIn, ?_⟩
  cases r1 with
  | cons rv rn =>
    rename_i v' us'
    cases rn
    show wpAny _ _ (call (.ref C) [v']) _ _ _
    obtain ⟨hp, g, dr, tk, os⟩ := s1
    refine wpAny_call (x_made T hf (hm _ rv) ⟨I1.kIn, I1.mod.glob.keeps I1.bk, let ⟨mb, h1, h2⟩ := I1.mod.blt; ⟨mb, h1.keeps I1.bk, h2⟩, I1.nolimit⟩ (by have := hr.dp; omega) fun h' tk' e d M => ?_)
    show MkP X pins σ Q (.ref e) ⟨h', g, dr, tk', os⟩
    obtain ⟨oe, fv, hoe, hc, hd, hdat, h1⟩ := M.obj
    have hns := M.ns
    obtain ⟨G', g1, g2⟩ := restrict h' fun b => decide (b ≠ e)
    have gk : ∀ b, b ≠ e → G'.get? b = h'.get? b := fun b hb => g1 b (decide_eq_true hb)
    have ge : G'.get? e = none := g2 e (by simp)
    have old : ∀ b o, hp.get? b = some o → G'.get? b = some o := fun b o q => (gk b (Nat.ne_of_lt (Nat.lt_of_lt_of_le (Heap.lt_size q) M.new))).trans (M.keep b o q)
    have ob : ObjOk X.prog X.w (upd H1 d (.xd [(y, v)])) G' d (.xd [(y, v)]) :=
      ⟨_, hns.at (fun o q => (gk d M.dne).trans q), fun f => relO_x rv y f⟩
    have J : Inv X pins σ (upd H1 d (.xd [(y, v)])) ⟨G', g, dr, tk', os⟩ := I1.laid (t' := tk') old M.dbig ob
    refine ⟨e, oe, fv, ⟨G', g, dr, tk', os⟩, _, .ref C, some d, rfl, J, fun b o q => ?_, ge, hoe, ⟨hc, hd⟩, hdat, h1, ?_, rfl, I1.bare, raises_own T.exC T.tyC, q1 d (I1.hok.fresh M.dbig)⟩
    · by_cases hb : b = e
      · have q' : G'.get? b = some o := q
        rw [hb, ge] at q'; cases q'
      · exact (gk b hb).symm.trans q
    · rw [upd_ne (Ne.symm M.dne)]
      exact I1.hok.fresh M.new
/-- raise E(e) -/
def tRaiseX (prog : Program) (w : World) (C : Addr) (y : Str) (msg : XM) (W : WX) (ta : TA) : TS := fun _ σ H => tMkX prog w C y msg ta σ H fun cls d H' => W cls d σ H'
theorem ps_raiseX {a : Expr} {ta : TA} {W : WX} {p pos pos2 : Pos} {k : Nat} (hc : X.calm = true) (T : SupTxt X.prog X.K X.mg nm y msg C fI) (hf : Fld y) (hr : Room k X.A) (tk : Takes X W) (ha : PA X [a] ta) (hg : Gl X nm) (hnd : (nm == ("__debug__" : Str)) = false)
    (he : starEach (a :: []) X.env = (false, eval a X.env) :: starEach [] X.env := by rfl) (hpl : (backTo pos (starEach [] X.env)).any (·.1) = false := by rfl) :
    PS X (.Raise (some (.Call (.Name nm p) [a] [] pos)) none pos2) (tRaiseX X.prog X.w C y msg W ta) := ps_raise hc tk (pmk_x T hf hr ha hg hnd he hpl)
/-- e.f, e the exception that the suite holds -/
def tFldX (C a : Addr) (cls : Value) (d : Option Addr) (y : Str) (te : TE) : TE := fun σ H Q => te σ H fun x H1 => x = .ref a ∧ cls = .ref C ∧ ∃ (dd : Addr) (v : V), d = some dd ∧ H1 dd = some (.xd [(y, v)]) ∧ Q v H1
theorem pe_fldX {a : Addr} {oe : Obj} {cls : Value} {d : Option Addr} {pn : List (Addr × Obj)} {e : Expr} {te : TE} {pos : Pos} (T : SupTxt X.prog X.K X.mg nm y msg C fI) (hz : Zc cls d oe) (hf : ∃ vs, oe.data = .fields vs) (he : PE (X.suite a ((a, oe) :: pn)) e te)
    (hb : attributeBase e y X.env (eval e X.env) = eval e X.env) :
    PE (X.suite a ((a, oe) :: pn)) (.Attribute e y pos) (tFldX C a cls d y te) := by
  refine ⟨fun pins s σ H Q I h => ?_⟩
  refine attr_of hb (thn (he.run pins s σ H _ I h) fun u s1 hh => ?_)
  obtain ⟨x, H1, I1, rx, ex, ec, dd, v, ed, ea, q⟩ := hh
  subst ex
  obtain rfl : u = Value.ref a := rx
  subst ec
  subst ed
  obtain ⟨ha, _⟩ := I1.pin (a, oe) (List.mem_append_left _ List.mem_cons_self)
  obtain ⟨vs, hd⟩ := hf
  have hx : ObjOk X.prog X.w H1 s1.heap dd (.xd [(y, v)]) := I1.hok dd _ ea
  obtain ⟨mA, hns, hr⟩ := hx
  obtain ⟨od, ho, hl⟩ := lookIn_ns hns
  have l : List.lookup y [(y, v)] = some v := by simp [List.lookup]
  obtain ⟨u, hu, ru⟩ := RelO.some_of (v := v) (o := mA y) (by rw [← l]; exact hr y)
  have J : PySem.W.InstAt s1.heap a oe C (some od) := ⟨ha, hz.1, by unfold PySem.W.notCls; rw [hd] <;> rfl, by rw [hz.2]; exact ho⟩
  exact HandSPX.exc_get I1.kIn J T.ga T.gg T.exC (PySem.W.findObj_own T.hdC T.noN rfl (by rw [hl, hu])) (handed_of ru) ⟨v, H1, I1.tok _, ru, q⟩
end
/-! ### texts of errors -/
section
variable {prog : Program} {w : World}
theorem msg_ci {y a : Str} {k : Nat} {c1 c2 p p' : Pos} {i : Int} (hd : (y == ("__debug__" : Str)) = false) (ha : a.length ≤ 1000) (hi : i.natAbs.log2 < 1920) (v : Value) (r : RelV (.int i) v) :
    MsgOk prog w y ⟨.Constant (.str a) k c1, .FormattedValue (.Name y c2) (-1) none p, [], p'⟩ v := by
  obtain ⟨t, rfl⟩ : ∃ t, v = Value.int i t := r
  intro A E s env m Q ek ky hn hy h
  have li := int_text_len_1921 hi
  have sl : sizeLine = 16777216 := sizeLine_eq
  have l1 : (Str.empty ++ a).length ≤ 1000 := by rw [Str.length_append]; exact (Nat.zero_add _).symm ▸ ha
  have l2 : (Str.empty ++ a ++ Str.ofString (toString i)).length ≤ sizeLine := by rw [Str.length_append, sl]; omega
  refine PyProof.Rows.JoinedStr_many (PyProof.Rows.joinParts_cons (wpAny_Constant_str ⟨by omega, ?_⟩))
  refine PyProof.Rows.joinParts_cons (PyProof.Rows.FormattedValue_plain (wpAny_Name (wpAny_loadName_local ek ky hn hy ?_) hd))
  refine PyProof.Rows.formatField_int_small hi ⟨l2, ?_⟩
  exact PyProof.Rows.joinParts_nilE (PyProof.Rows.joinParts_nil (h _ _ _) l2)
theorem msg_cic {y a b : Str} {k k2 : Nat} {c1 c2 c3 p p' : Pos} {i : Int} (hd : (y == ("__debug__" : Str)) = false) (ha : a.length ≤ 1000) (hb : b.length ≤ 1000) (hi : i.natAbs.log2 < 1920) (v : Value) (r : RelV (.int i) v) :
    MsgOk prog w y ⟨.Constant (.str a) k c1, .FormattedValue (.Name y c2) (-1) none p, [.Constant (.str b) k2 c3], p'⟩ v := by
  obtain ⟨t, rfl⟩ : ∃ t, v = Value.int i t := r
  intro A E s env m Q ek ky hn hy h
  have li := int_text_len_1921 hi
  have sl : sizeLine = 16777216 := sizeLine_eq
  have l1 : (Str.empty ++ a).length ≤ 1000 := by rw [Str.length_append]; exact (Nat.zero_add _).symm ▸ ha
  have l2 : (Str.empty ++ a ++ Str.ofString (toString i)).length ≤ sizeLine := by rw [Str.length_append, sl]; omega
  have l3 : (Str.empty ++ a ++ Str.ofString (toString i) ++ b).length ≤ sizeLine := by rw [Str.length_append, Str.length_append, sl]; omega
  refine PyProof.Rows.JoinedStr_many (PyProof.Rows.joinParts_cons (wpAny_Constant_str ⟨by omega, ?_⟩))
  refine PyProof.Rows.joinParts_cons (PyProof.Rows.FormattedValue_plain (wpAny_Name (wpAny_loadName_local ek ky hn hy ?_) hd))
  refine PyProof.Rows.formatField_int_small hi ⟨l2, ?_⟩
  refine PyProof.Rows.joinParts_consE (PyProof.Rows.joinParts_cons (wpAny_Constant_str ⟨l3, ?_⟩))
  exact PyProof.Rows.joinParts_nilE (PyProof.Rows.joinParts_nil (h _ _ _) l3)
end
end FF
set_option Elab.async false
set_option linter.all false
set_option maxRecDepth 100000
set_option maxHeartbeats 2000000
/-! isinstance of a caught error that has fields -/
namespace FF
open PySem PySem.W PySem.Calls PyProof.Rows L2
/-- isinstance(e, c), e the error that the suite holds, with the fields fs -/
def rIsX (K : Frag) (D a : Addr) (cls : Value) (d : Option Addr) : List V → Hp → VK → Prop := fun xs H Q => ∃ (c : V) (cv : Value) (b : Bool) (dd : Addr) (fs : List (Str × V)), xs = [.ref a, c] ∧ cls = .ref D ∧ d = some dd ∧ H dd = some (.xd fs) ∧ (∀ u, RelV c u → u = cv) ∧ kitOne K (.ref D) cv = some b ∧ Q (.bl b) H
theorem call_isX {X : Cx} {a D : Addr} {cls : Value} {d : Option Addr} {oe : Obj} {pn : List (Addr × Obj)} (C : ExcC X.K D) (cl : (clsIn X.K D).isSome = true) (hz : Zc cls d oe) (hf : ∃ vs, oe.data = .fields vs) :
    CallR (X.suite a ((a, oe) :: pn)) (.builtin "isinstance") (rIsX X.K D a cls d) := by
  intro pins s σ H xs us Q I r h
  obtain ⟨c, cv, b, dd, fs, rfl, rfl, rfl, hd, hc, hb, q⟩ := h
  cases r with
  | cons r1 r2 =>
    rename_i u1 us1
    cases r2 with
    | cons r3 r4 =>
      rename_i u2 us2
      cases r4
      obtain rfl : u1 = Value.ref a := r1
      obtain rfl := hc _ r3
      obtain ⟨ha, _⟩ := I.pin (a, oe) (List.mem_append_left _ List.mem_cons_self)
      obtain ⟨vs, hdat⟩ := hf
      have hx : ObjOk X.prog X.w H s.heap dd (.xd fs) := I.hok dd _ hd
      obtain ⟨mA, hns, hr⟩ := hx
      obtain ⟨od, ho, hl⟩ := lookIn_ns hns
      have J : PySem.W.InstAt s.heap a oe D (some od) := ⟨ha, hz.1, by unfold PySem.W.notCls; rw [hdat] <;> rfl, by rw [hz.2]; exact ho⟩
      refine kia_one (kitx_exc (od := some od) cl C.hg C.hk C.hs C.ha C.hn C.ht C.hm) I.kIn J hb (fun e => nomatch e) fun tk => ?_
      exact ⟨.bl b, H, I.tok _, rfl, q⟩
end FF
set_option Elab.async false
set_option linter.all false
set_option maxRecDepth 100000
set_option maxHeartbeats 2000000
/-! own errors of two fields -/
namespace FF
open PySem PySem.W PySem.Calls PyProof.Rows PySem.HandSPX L2
/-- self and one more -/
def xA2 (y y2 : Str) (p1 p2 p3 : Pos) : Arguments := { posonlyargs := [], args := [{ arg := "self", annotation := none, pos := p1 }, { arg := y, annotation := none, pos := p2 }, { arg := y2, annotation := none, pos := p3 }], vararg := none, kwonlyargs := [], kw_defaults := [], kwarg := none, defaults := [] }
def xB2 (y y2 : Str) (msg : XM) (p0 p1 p2 p3 p4 q1 q2 q3 q4 q5 q6 q7 q8 : Pos) : List Stmt := [.Expr (xCall msg p0 p1 p2 p3) p4, .Assign [.Attribute (.Name "self" q1) y q2] (.Name y q3) q4, .Assign [.Attribute (.Name "self" q5) y2 q6] (.Name y2 q7) q8]
def xS2 (y y2 : Str) : Scope := { kind := .function, names := [(PySem.Str.ofString "self", .local), (y, .local), (y2, .local), (PySem.Str.ofString "__class__", .free), (PySem.Str.ofString "super", .globalImplicit)], isGenerator := false, isCoroutine := false, more := [] }
/-- the field's name -/
structure Fld2 (y y2 : Str) : Prop where
  ks : List.lookup (PySem.Str.ofString "self") (xS2 y y2).names = some .local
  ky : List.lookup y (xS2 y y2).names = some .local
  ky2 : List.lookup y2 (xS2 y y2).names = some .local
  kc : List.lookup (PySem.Str.ofString "__class__") (xS2 y y2).names = some .free
  ku : List.lookup (PySem.Str.ofString "super") (xS2 y y2).names = some .globalImplicit
  ne : y ≠ PySem.Str.ofString "self"
  ne2 : y2 ≠ PySem.Str.ofString "self"
  n12 : y2 ≠ y
  d : (y == ("__debug__" : Str)) = false
  d2 : (y2 == ("__debug__" : Str)) = false
  b : ∀ (q : Str) (p1 p2 p3 : Pos) (body : List Stmt) (doc pm cdv ct x v v2 : Value) (an : Option Addr) (cc : Addr), bindArgs (ksFn "__init__" q (xA2 y y2 p1 p2 p3) body (xS2 y y2) .none .none doc pm an cdv ct cc) ⟨[x, v, v2], []⟩ = pure [(PySem.Str.ofString "self", x), (y, v), (y2, v2)]
theorem fld_wn : Fld2 "word" "number" := ⟨by decide +kernel, by decide +kernel, by decide +kernel, by decide +kernel, by decide +kernel, by decide +kernel, by decide +kernel, by decide +kernel, by decide +kernel, by decide +kernel, fun _ _ _ _ _ _ _ _ _ _ _ _ _ _ => by first | rfl | with_unfolding_all rfl⟩
/-- what the text of an error says of its field -/
def MsgOk2 (prog : Program) (w : World) (y y2 : Str) (msg : XM) (v v2 : Value) : Prop := ∀ (A : Around) (E : Value → Shared → Prop) (s : Shared) (env : Env) (m : Str → Option Value) (Q : Value → Shared → Prop),
    env.scope.kind = .function → env.kindOf y = some .local → env.kindOf y2 = some .local → s.heap.Ns env.locals m → m y = some v → m y2 = some v2 →
    (∀ (z : Str) (t tk : Nat), Q (.str z t) { s with toks := tk }) → wpAny (model prog w) A (eval msg.e env) Q E s
/-- what the written part says of an error class -/
structure SupTxt2 (prog : Program) (K : Frag) (mg : Str → Option Value) (nm : Str) (y y2 : Str) (msg : XM) (C fI : Addr) : Prop where
  gC : mg nm = some (.ref C)
  gS : mg "super" = none
  cls : ∃ nm q N bs bm sn sub ab col dd k0 k1 k2 k3 k5, K.lookup C = some (excClassObj nm q C N bs bm true sn sub ab col dd k0 k1 k2 k3 k5 "ValueError.__new__") ∧ HandSPX.refsVE bm = true ∧ PX.refsVE bm = true
  sa : findIn K (.ref C) "__setattr__" = some (some (.builtin "object.__setattr__"))
  ga : findIn K (.ref C) "__getattribute__" = some (some (.builtin "BaseException.__getattribute__"))
  gg : findIn K (.ref C) "__getattr__" = some none
  noN : findIn K (.ref C) y = some none
  noN2 : findIn K (.ref C) y2 = some none
  iC : findIn K (.ref C) "__init__" = some (some (.ref fI))
  tC : typeIn K (.ref fI) = some (.type "function")
  kC : keepIn K (.ref C) = true
  exC : subIn K (.ref C) (.type "BaseException") = some true
  exV : subIn K (.ref C) (.type "ValueError") = some true
  tyC : typeIn K (.ref C) = some (.type "type")
  hdC : hasDictIn K C = true
  own : mroIn K C (.ref C) = some true
  sup : ks_superIn K C C "__init__" = some (some (.builtin "ValueError.__init__"))
  any : nsIn K cStatics "thirdparty.any" = some none
  xin : ∃ bmB, ExcBaseFacts "ValueError" "ValueError.__new__" "ValueError.__init__" bmB ∧ excInitIn K C bmB "ValueError.__new__" = true
  noS : (prog.main.scope.names.lookup (PySem.Str.ofString "super")).isSome = false
  fn : ∃ (q : Str) (oc : Value) (od : Option Addr) (doc pm : Value) (an : Option Addr) (cda cc : Addr) (ct : Value) (osl : Array (Option Value)) (p1 p2 p3 r0 r1 r2 r3 r4 q1 q2 q3 q4 q5 q6 q7 q8 : Pos),
    K.lookup fI = some ⟨oc, od, .func (ksFn "__init__" q (xA2 y y2 p1 p2 p3) (xB2 y y2 msg r0 r1 r2 r3 r4 q1 q2 q3 q4 q5 q6 q7 q8) (xS2 y y2) .none .none doc pm an (.ref cda) ct cc), osl⟩ ∧ codeIn K (.ref cda) q = true ∧
    (∃ cl cld csl, K.lookup cc = some ⟨cl, cld, .cell (some (.ref C)), csl⟩) ∧
    (∃ ccl cdd vs ccs file tf, K.lookup cda = some ⟨ccl, cdd, .fields vs, ccs⟩ ∧ vs[2]? = some (.str file tf) ∧ (prog.main.file == file) = true) ∧ XCallEq msg r0 r1 r2 r3
section
variable {prog : Program} {w : World} {A : Around} {E : Value → Shared → Prop} {K : Frag} {mg : Str → Option Value} {C fI : Addr} {nm y y2 : Str} {msg : XM}
/-- a made error -/
structure XMade2 (h h' : Heap) (e C d : Addr) (y y2 : Str) (v v2 : Value) : Prop where
  keep : ∀ b o, h.get? b = some o → h'.get? b = some o
  new : h.objs.size ≤ e
  obj : ∃ oe vs, h'.get? e = some oe ∧ oe.cls = .ref C ∧ oe.dict = some d ∧ oe.data = .fields vs ∧ vs[1]? = some .none
  dbig : h.objs.size ≤ d
  dne : d ≠ e
  ns : h'.Ns1 d (fun z => if z = y2 then some v2 else if z = y then some v else none)
theorem sup_init2 (T : SupTxt2 prog K mg nm y y2 msg C fI) (hf : Fld2 y y2) {v v2 : Value} (hm : MsgOk2 prog w y y2 msg v v2) {hp : Heap} {g : Array GenState} {dr : Drawn} {tk : Nat} {os : OsState} {R : Result → Shared → Prop}
    (M : L2.Mod K mg hp) (hroom : A.depth < recursionLimit)
    (hq : ∀ h' tk' e d, e = hp.objs.size + 1 → XMade2 hp h' e C d y y2 v v2 → R (.ok (.ret .none)) ⟨h', g, dr, tk', os⟩) :
    codeAny (model prog w) A (.call (.ref fI) ⟨[.ref (hp.objs.size + 1), v, v2], []⟩) R ⟨(hp.push (kdv_tup [v, v2])).push (excO C hp.objs.size), g, dr, tk, os⟩ := by
  obtain ⟨q, oc, od, doc, pm, an, cda, cc, ct, osl, p1, p2, p3, r0, r1, r2, r3, r4, q1, q2, q3, q4, q5, q6, q7, q8, ho, hcd, ⟨cl, cld, csl, hcc⟩, ⟨ccl, cdd, vs, ccs, file, tf, hca, hvs, hfile⟩, hce⟩ := T.fn
  obtain ⟨nm', q', N, bs, bm, sn, sub, ab, col, dd, k0, k1, k2, k3, k5, hC, hbm, hbm2⟩ := T.cls
  obtain ⟨bmB, hbF, hxi⟩ := T.xin
  have hcl : clsIn K C = some { name := nm', bases := bs, mro := .ref C :: bm, ns := N, qualname := q', hasDict := true, slotNames := sn, subclasses := sub, abstract := ab, collection := col, hasDel := false } := by unfold clsIn; rw [hC] <;> rfl
  have k0 : ∀ b o, hp.get? b = some o → ((hp.push (kdv_tup [v, v2])).push (excO C hp.objs.size)).get? b = some o := fun b o e => Heap.get?_push_of_some _ (Heap.get?_push_of_some _ e)
  have hx0 : ((hp.push (kdv_tup [v, v2])).push (excO C hp.objs.size)).get? (hp.objs.size + 1) = some (excO C hp.objs.size) := by heap_get
  generalize hs0 : (hp.push (kdv_tup [v, v2])).push (excO C hp.objs.size) = hh at k0 hx0 ⊢
  have sz : hh.objs.size = hp.objs.size + 2 := by rw [← hs0, Heap.size_push, Heap.size_push]
  have X₀ : K.In hh := M.kin.keeps k0
  refine ks_codeAny_call_defAt (binds := [("self", .ref (hp.objs.size + 1)), (y, v), (y2, v2)]) hroom (X₀ _ _ ho) rfl (M.nolimit.keeps k0) ?_ rfl ?_ ?_ ?_ (fun h₁ hn kk => ?_) rfl rfl rfl
  · simp only [codeIn, hca] at hcd
    revert hcd
    rcases hv : vs.toList with _ | ⟨a0, _ | ⟨a1, r⟩⟩
    · exact fun h => nomatch h
    · exact fun h => nomatch h
    · intro h
      obtain ⟨n1, t1, rfl, e⟩ : ∃ n1 t1, a1 = Value.str n1 t1 ∧ n1 = q := by
        cases a1 <;> first | exact ⟨_, _, rfl, by simpa using h⟩ | (simp at h)
      subst e
      refine ⟨cda, _, vs, t1, rfl, X₀ _ _ hca, rfl, ?_⟩
      rw [← Array.getElem?_toList, hv]
      rfl
  · exact BindsTo.of_eq (hf.b ..)
  · intro z hz
    simp only [xS2, List.mem_cons, List.not_mem_nil, or_false] at hz
    rcases hz with rfl | rfl | rfl | rfl | rfl <;> exact fun h => nomatch h
  · intro z hz
    simp only [List.mem_cons, List.not_mem_nil, or_false] at hz
    rcases hz with rfl | rfl | rfl
    · rfl
    · exact hf.ky
    · exact hf.ky2
  · have z : hp.objs.size + 1 < hh.objs.size := by rw [sz]; omega
    have kp : ∀ b o, hp.get? b = some o → h₁.get? b = some o := fun b o e => kk b o (k0 b o e)
    have F₁ : Fr hp hh.objs.size h₁ (fun x => List.lookup x [(y2, v2), (y, v), (("self" : Str), Value.ref (hp.objs.size + 1))]) := ⟨hn, kp, by rw [sz]; omega⟩
    have hx₁ := kk _ _ hx0
    have N₁ : News hp hh.objs.size h₁ [(hp.objs.size + 1, excO C hp.objs.size)] := fun p h => by
      rcases List.mem_singleton.1 h with rfl
      refine ⟨hx₁, by rw [sz]; exact (by omega : hp.objs.size + 1 ≠ hp.objs.size + 2), ?_⟩
      cases e : hp.get? (hp.objs.size + 1) with
      | none => rfl
      | some o => exact absurd (Heap.lt_size e) (Nat.not_lt.2 (Nat.le_succ _))
    have X₁ : K.In h₁ := M.kin.keeps kp
    have hC₁ : h₁.get? C = some _ := X₁ _ _ hC
    obtain ⟨mb, hb1, hb2⟩ := M.blt
    refine ks_wpAt_execs_cons (ks_wpAt_Expr_any ?_ rfl rfl)
    obtain ⟨pl, he⟩ := hce (callEnv (ksFn (Str.ofString "__init__") q (xA2 y y2 p1 p2 p3) (xB2 y y2 msg r0 r1 r2 r3 r4 q1 q2 q3 q4 q5 q6 q7 q8) (xS2 y y2) Value.none Value.none doc pm an (Value.ref cda) ct cc) hh.objs.size fI)
    refine ks_wpAt_MethodCall (pl := pl) ?_ he
    refine ks_wpAt_super_base hf.ku hf.kc (by decide +kernel) rfl (X₁ _ _ ho) rfl rfl rfl (X₁ _ _ hca) rfl hvs hfile T.noS ?_
    refine ks_loadName_global rfl hf.ku ?_
    refine Calls.loadGlobal_builtin (M.glob.keeps kp) T.gS (hb1.keeps kp) ((hb2 _ (by decide)).trans (by decide +kernel)) ⟨rfl, ?_⟩
    refine wpAny_loadName_free rfl hf.kc (c := cc) (v := .ref C) rfl ⟨_, X₁ _ _ hcc, rfl⟩ ?_
    have hself : List.lookup (PySem.Str.ofString "self") [(y2, v2), (y, v), (PySem.Str.ofString "self", Value.ref (hp.objs.size + 1))] = some (Value.ref (hp.objs.size + 1)) := by
      have e : (PySem.Str.ofString "self" == y) = false := by
        rw [beq_eq_false_iff_ne]
        exact Ne.symm hf.ne
      have e2 : (PySem.Str.ofString "self" == y2) = false := by
        rw [beq_eq_false_iff_ne]
        exact Ne.symm hf.ne2
      simp only [List.lookup, e, e2, beq_self_eq_true]
    refine wpAny_loadName_local rfl hf.ks hn hself ?_
    refine ks_wpAny_isType_cls hC₁ rfl ⟨rfl, ?_⟩
    refine ks_wpAny_call_super hC₁ rfl hx₁ rfl (fun c e => nomatch e) (looks_subIn X₁ T.own) fun h₂ hso k₂ => ?_
    have xl : hp.objs.size + 1 < h₁.objs.size := Heap.lt_size hx₁
    have Ll : hh.objs.size < h₁.objs.size := hn.lt
    have F₂ : Fr hp hh.objs.size h₂ (fun x => List.lookup x [(y2, v2), (y, v), (PySem.Str.ofString "self", Value.ref (hp.objs.size + 1))]) := ⟨hn.keeps k₂, fun b o e => k₂ b o (kp b o e), by rw [sz]; omega⟩
    have hpn : ∀ a, hp.objs.size ≤ a → hp.get? a = none := fun a ha => by
      cases e : hp.get? a with
      | none => rfl
      | some o => exact absurd (Heap.lt_size e) (Nat.not_lt.2 ha)
    have N₂ : News hp hh.objs.size h₂ [(h₁.objs.size, ks_superObj C (hp.objs.size + 1) C), (hp.objs.size + 1, excObj C hp.objs.size none .none)] := fun p h => by
      rcases List.mem_cons.1 h with rfl | h
      · exact ⟨hso, Nat.ne_of_gt Ll, hpn _ (by omega)⟩
      · rcases List.mem_singleton.1 h with rfl
        exact ⟨k₂ _ _ hx₁, by rw [sz]; exact (by omega : hp.objs.size + 1 ≠ hp.objs.size + 2), hpn _ (Nat.le_succ _)⟩
    refine kxs_method kxs_ValueError F₂ M.kin N₂ List.mem_cons_self (InstAt.of_exc0 N₂ (List.mem_cons_of_mem _ List.mem_cons_self)) T.any T.sup T.exV (by decide +kernel) fun u h₃ F₃ N₃ lt₃ => ?_
    refine kxs_callWith1 N₃ List.mem_cons_self ?_ rfl rfl
    have hyv : List.lookup y [(y2, v2), (y, v), (PySem.Str.ofString "self", Value.ref (hp.objs.size + 1))] = some v := by
      have e2 : (y == y2) = false := by
        rw [beq_eq_false_iff_ne]
        exact Ne.symm hf.n12
      simp only [List.lookup, e2, beq_self_eq_true]
    have hyv2 : List.lookup y2 [(y2, v2), (y, v), (PySem.Str.ofString "self", Value.ref (hp.objs.size + 1))] = some v2 := by simp only [List.lookup, beq_self_eq_true]
    refine PyProof.Rows.spliced_more (hm _ _ _ _ _ _ rfl hf.ky hf.ky2 F₃.ns hyv hyv2 fun z zt ztk => ?_) rfl
    refine PyProof.Rows.spliced_none ⟨kxs_at N₃ List.mem_cons_self, ?_⟩
    have ux : hp.objs.size + 1 < u := lt₃ _ (List.mem_cons_of_mem _ List.mem_cons_self)
    refine kxs_call F₃ M.kin N₃ hbF hxi List.mem_cons_self (UpdF.tail (Nat.ne_of_gt ux) (UpdF.tail (Nat.ne_of_gt xl) (UpdF.head (fun _ h => nomatch h)))) (by rw [sizeLine_eq]; simp) fun t' h₄ F₄ N₄ lt₄ => ?_
    have hx₄ : h₄.get? (hp.objs.size + 1) = some (excObj C t' none .none) := (N₄ _ (List.mem_cons_of_mem _ (List.mem_cons_of_mem _ (List.mem_cons_of_mem _ List.mem_cons_self)))).1
    have X₄ : K.In h₄ := M.kin.keeps F₄.keep
    show PySem.wpAt _ _ _ (execs (_ :: _) _) _ _ _
    refine wpAt_of_wpAny ?_
    refine wpAny_execs_cons (plainObj_wpAny_Assign_Attribute ?_)
    refine wpAny_Name (wpAny_loadName_local rfl hf.ky F₄.ns hyv ?_) hf.d
    refine wpAny_Name (wpAny_loadName_local rfl hf.ks F₄.ns hself ?_) (by decide +kernel)
    refine set_plain X₄ (ox := excObj C t' none .none) (od := none) ⟨hx₄, rfl, rfl, trivial⟩ T.sa ?_
    refine exc_osa X₄ hx₄ hcl (show HandSPX.refsVE (.ref C :: bm) = true from hbm) rfl T.noN (fun h₅ tk₅ dx k₅ dn dne hx₅ hn₅ => ?_)
    have hnx : K.lookup (hp.objs.size + 1) = none := by
      cases e : K.lookup (hp.objs.size + 1) with
      | none => rfl
      | some o => exact absurd (Heap.lt_size (M.kin _ _ e)) (Nat.not_lt.2 (Nat.le_succ _))
    have X₅ : K.In h₅ := fun a o e => k₅ a o (fun z => by rw [z, hnx] at e; cases e) (X₄ a o e)
    have xL : hh.objs.size ≠ hp.objs.size + 1 := by rw [sz]; exact (by omega : hp.objs.size + 2 ≠ hp.objs.size + 1)
    have ns₅ : h₅.Ns hh.objs.size _ := F₄.ns.at fun o e => k₅ _ o xL e
    show wpAny _ _ (execs (_ :: _) _) _ _ _
    refine wpAny_execs_cons (plainObj_wpAny_Assign_Attribute ?_)
    refine wpAny_Name (wpAny_loadName_local rfl hf.ky2 ns₅ hyv2 ?_) hf.d2
    refine wpAny_Name (wpAny_loadName_local rfl hf.ks ns₅ hself ?_) (by decide +kernel)
    obtain ⟨od5, _, _, ho5, _⟩ := id hn₅
    refine set_plain X₅ (od := some od5) ⟨hx₅, rfl, rfl, ho5⟩ T.sa ?_
    refine PX.osa_old X₅ hx₅ hn₅ (nl := [y]) (fun z hz => ?_) (by simp) hcl (show PX.refsVE (.ref C :: bm) = true from hbm2) rfl T.noN2 (fun h₆ tk₆ k₆ hn₆ => ?_)
    · by_cases e : z = y
      · exact List.mem_singleton.2 e
      · rw [if_neg e] at hz
        exact absurd rfl hz
    show wpAny _ _ (execs _ _) _ _ _
    have dh : hp.objs.size ≤ dx := Nat.le_of_lt (Nat.lt_of_lt_of_le (Nat.lt_of_succ_lt (Heap.lt_size hx₄)) dn)
    refine wpAny_execs_nil (hq h₆ tk₆ _ dx rfl ⟨fun b o e => k₆ b o (Nat.ne_of_lt (Nat.lt_of_lt_of_le (Heap.lt_size e) dh)) (k₅ b o (Nat.ne_of_lt (Nat.lt_succ_of_lt (Heap.lt_size e))) (F₄.keep b o e)), Nat.le_succ _, ⟨_, _, k₆ _ _ (Ne.symm dne) hx₅, rfl, rfl, rfl, rfl⟩, dh, dne, hn₆⟩)
theorem x_made2 (T : SupTxt2 prog K mg nm y y2 msg C fI) (hf : Fld2 y y2) {v v2 : Value} (hm : MsgOk2 prog w y y2 msg v v2) {s : Shared} {R : Result → Shared → Prop} (M : L2.Mod K mg s.heap) (hroom : A.depth + 1 < recursionLimit)
    (hq : ∀ h' tk e d, XMade2 s.heap h' e C d y y2 v v2 → R (.ok (.ret (.ref e))) { s with heap := h', toks := tk }) :
    codeAny (model prog w) A (.call (.ref C) ⟨[v, v2], []⟩) R s := by
  obtain ⟨nm', q, N, bs, bm, sn, sub, ab, col, dd, k0, k1, k2, k3, k5, hC, hbm, hbm2⟩ := T.cls
  obtain ⟨hp, g, dr, tk, os⟩ := s
  refine call_own F.excBase_ValueError (fun X => HandSPX.refsVE_contains X bm hbm) (M.kin _ _ hC) (looks_findIn M.kin T.iC) (fun self => bind_fn M.kin self T.tC) (by rw [sizeLine_eq]; simp) ?_
  refine sup_init2 T hf hm M ?_ fun h' tk' e d he H => ?_
  · show A.depth + 1 < recursionLimit
    exact hroom
  · subst he
    exact ⟨rfl, hq h' tk' _ d H⟩
theorem relO_x2 {v v2 : V} {v' v2' : Value} (r : RelV v v') (r2 : RelV v2 v2') {y y2 : Str} (n : y2 ≠ y) (f : Str) : RelO (List.lookup f [(y, v), (y2, v2)]) (if f = y2 then some v2' else if f = y then some v' else none) := by
  by_cases h1 : f = y
  · subst h1
    rw [if_neg (Ne.symm n), if_pos rfl]
    have q : List.lookup f [(f, v), (y2, v2)] = some v := by simp [List.lookup]
    rw [q]
    exact r
  · have e1 : (f == y) = false := by simpa using h1
    by_cases h2 : f = y2
    · subst h2
      rw [if_pos rfl]
      have q : List.lookup f [(y, v), (f, v2)] = some v2 := by simp [List.lookup, e1]
      rw [q]
      exact r2
    · have e2 : (f == y2) = false := by simpa using h2
      rw [if_neg h2, if_neg h1]
      have q : List.lookup f [(y, v), (y2, v2)] = none := by simp [List.lookup, e1, e2]
      rw [q]
      trivial
end
section
variable {X : Cx} {C fI : Addr} {nm y y2 : Str} {msg : XM}
/-- E(e) -/
def tMkX2 (prog : Program) (w : World) (C : Addr) (y y2 : Str) (msg : XM) (ta : TA) : L2.St → Hp → XK → Prop := fun σ H Q => ta σ H fun vs H1 => ∃ v v2, vs = [v, v2] ∧ (∀ v' v2', RelV v v' → RelV v2 v2' → MsgOk2 prog w y y2 msg v' v2') ∧ ∀ d, H1 d = none → Q (.ref C) (some d) (upd H1 d (.xd [(y, v), (y2, v2)]))
theorem pmk_x2 {a a2 : Expr} {ta : TA} {p pos : Pos} {k : Nat} (T : SupTxt2 X.prog X.K X.mg nm y y2 msg C fI) (hf : Fld2 y y2) (hr : Room k X.A) (ha : PA X [a, a2] ta) (hg : Gl X nm) (hnd : (nm == ("__debug__" : Str)) = false)
    (he : starEach (a :: [a2]) X.env = (false, eval a X.env) :: starEach [a2] X.env := by rfl) (hpl : (backTo pos (starEach [a2] X.env)).any (·.1) = false := by rfl) :
    PMk X (.Call (.Name nm p) [a, a2] [] pos) (tMkX2 X.prog X.w C y y2 msg ta) := by
  intro pins s σ H Q I h
  refine wpAny_Call_Name_kw (ld_glob I hg T.gC ?_ hnd)
  refine PySem.W.callWith_K (h₀ := X.base) I.ok.mod.kin T.kC (thn (ha.run pos pins s σ H _ I h) fun us s1 hh => ?_) he hpl
  obtain ⟨vs, H1, I1, r1, v, v2, ev, hm, q1⟩ := hh
  subst ev
  refine ⟨I1.kIn, ?_⟩
  cases r1 with
  | cons rv rn =>
    rename_i v' us'
    cases rn with
    | cons rv2 rn2 =>
    rename_i v2' us2'
    cases rn2
    show wpAny _ _ (call (.ref C) [v', v2']) _ _ _
    obtain ⟨hp, g, dr, tk, os⟩ := s1
    refine wpAny_call (x_made2 T hf (hm _ _ rv rv2) ⟨I1.kIn, I1.mod.glob.keeps I1.bk, let ⟨mb, h1, h2⟩ := I1.mod.blt; ⟨mb, h1.keeps I1.bk, h2⟩, I1.nolimit⟩ (by have := hr.dp; omega) fun h' tk' e d M => ?_)
    show MkP X pins σ Q (.ref e) ⟨h', g, dr, tk', os⟩
    obtain ⟨oe, fv, hoe, hc, hd, hdat, h1⟩ := M.obj
    have hns := M.ns
    obtain ⟨G', g1, g2⟩ := restrict h' fun b => decide (b ≠ e)
    have gk : ∀ b, b ≠ e → G'.get? b = h'.get? b := fun b hb => g1 b (decide_eq_true hb)
    have ge : G'.get? e = none := g2 e (by simp)
    have old : ∀ b o, hp.get? b = some o → G'.get? b = some o := fun b o q => (gk b (Nat.ne_of_lt (Nat.lt_of_lt_of_le (Heap.lt_size q) M.new))).trans (M.keep b o q)
    have ob : ObjOk X.prog X.w (upd H1 d (.xd [(y, v), (y2, v2)])) G' d (.xd [(y, v), (y2, v2)]) :=
      ⟨_, hns.at (fun o q => (gk d M.dne).trans q), fun f => relO_x2 rv rv2 hf.n12 f⟩
    have J : Inv X pins σ (upd H1 d (.xd [(y, v), (y2, v2)])) ⟨G', g, dr, tk', os⟩ := I1.laid (t' := tk') old M.dbig ob
    refine ⟨e, oe, fv, ⟨G', g, dr, tk', os⟩, _, .ref C, some d, rfl, J, fun b o q => ?_, ge, hoe, ⟨hc, hd⟩, hdat, h1, ?_, rfl, I1.bare, raises_own T.exC T.tyC, q1 d (I1.hok.fresh M.dbig)⟩
    · by_cases hb : b = e
      · have q' : G'.get? b = some o := q
        rw [hb, ge] at q'; cases q'
      · exact (gk b hb).symm.trans q
    · rw [upd_ne (Ne.symm M.dne)]
      exact I1.hok.fresh M.new
/-- raise E(e) -/
def tRaiseX2 (prog : Program) (w : World) (C : Addr) (y y2 : Str) (msg : XM) (W : WX) (ta : TA) : TS := fun _ σ H => tMkX2 prog w C y y2 msg ta σ H fun cls d H' => W cls d σ H'
theorem ps_raiseX2 {a a2 : Expr} {ta : TA} {W : WX} {p pos pos2 : Pos} {k : Nat} (hc : X.calm = true) (T : SupTxt2 X.prog X.K X.mg nm y y2 msg C fI) (hf : Fld2 y y2) (hr : Room k X.A) (tk : Takes X W) (ha : PA X [a, a2] ta) (hg : Gl X nm) (hnd : (nm == ("__debug__" : Str)) = false)
    (he : starEach (a :: [a2]) X.env = (false, eval a X.env) :: starEach [a2] X.env := by rfl) (hpl : (backTo pos (starEach [a2] X.env)).any (·.1) = false := by rfl) :
    PS X (.Raise (some (.Call (.Name nm p) [a, a2] [] pos)) none pos2) (tRaiseX2 X.prog X.w C y y2 msg W ta) := ps_raise hc tk (pmk_x2 T hf hr ha hg hnd he hpl)
end
/-- what reading a field of an error asks of its class -/
structure FldC (K : Frag) (C : Addr) (y : Str) : Prop where
  ga : findIn K (.ref C) "__getattribute__" = some (some (.builtin "BaseException.__getattribute__"))
  gg : findIn K (.ref C) "__getattr__" = some none
  exC : subIn K (.ref C) (.type "BaseException") = some true
  hdC : hasDictIn K C = true
  noN : findIn K (.ref C) y = some none
theorem SupTxt.fld {prog : Program} {K : Frag} {mg : Str → Option Value} {nm y : Str} {msg : XM} {C fI : Addr} (T : SupTxt prog K mg nm y msg C fI) : FldC K C y := ⟨T.ga, T.gg, T.exC, T.hdC, T.noN⟩
theorem SupTxt2.fld {prog : Program} {K : Frag} {mg : Str → Option Value} {nm y y2 : Str} {msg : XM} {C fI : Addr} (T : SupTxt2 prog K mg nm y y2 msg C fI) : FldC K C y := ⟨T.ga, T.gg, T.exC, T.hdC, T.noN⟩
theorem SupTxt2.fld2 {prog : Program} {K : Frag} {mg : Str → Option Value} {nm y y2 : Str} {msg : XM} {C fI : Addr} (T : SupTxt2 prog K mg nm y y2 msg C fI) : FldC K C y2 := ⟨T.ga, T.gg, T.exC, T.hdC, T.noN2⟩
section
variable {X : Cx}
/-- e.f, e the error that the suite holds, of whichever fields -/
def tFldG (C a : Addr) (cls : Value) (d : Option Addr) (y : Str) (te : TE) : TE := fun σ H Q => te σ H fun x H1 => x = .ref a ∧ cls = .ref C ∧ ∃ (dd : Addr) (fs : List (Str × V)) (v : V), d = some dd ∧ H1 dd = some (.xd fs) ∧ List.lookup y fs = some v ∧ Q v H1
theorem pe_fldG {C a : Addr} {y : Str} {oe : Obj} {cls : Value} {d : Option Addr} {pn : List (Addr × Obj)} {e : Expr} {te : TE} {pos : Pos} (T : FldC X.K C y) (hz : Zc cls d oe) (hf : ∃ vs, oe.data = .fields vs) (he : PE (X.suite a ((a, oe) :: pn)) e te)
    (hb : attributeBase e y X.env (eval e X.env) = eval e X.env) :
    PE (X.suite a ((a, oe) :: pn)) (.Attribute e y pos) (tFldG C a cls d y te) := by
  refine ⟨fun pins s σ H Q I h => ?_⟩
  refine attr_of hb (thn (he.run pins s σ H _ I h) fun u s1 hh => ?_)
  obtain ⟨x, H1, I1, rx, ex, ec, dd, fs, v, ed, ea, l, q⟩ := hh
  subst ex
  obtain rfl : u = Value.ref a := rx
  subst ec
  subst ed
  obtain ⟨ha, _⟩ := I1.pin (a, oe) (List.mem_append_left _ List.mem_cons_self)
  obtain ⟨vs, hd⟩ := hf
  have hx : ObjOk X.prog X.w H1 s1.heap dd (.xd fs) := I1.hok dd _ ea
  obtain ⟨mA, hns, hr⟩ := hx
  obtain ⟨od, ho, hl⟩ := lookIn_ns hns
  obtain ⟨u, hu, ru⟩ := RelO.some_of (v := v) (o := mA y) (by rw [← l]; exact hr y)
  have J : PySem.W.InstAt s1.heap a oe C (some od) := ⟨ha, hz.1, by unfold PySem.W.notCls; rw [hd] <;> rfl, by rw [hz.2]; exact ho⟩
  exact HandSPX.exc_get I1.kIn J T.ga T.gg T.exC (PySem.W.findObj_own T.hdC T.noN rfl (by rw [hl, hu])) (handed_of ru) ⟨v, H1, I1.tok _, ru, q⟩
end
section
variable {prog : Program} {w : World}
theorem msg_ctci {y y2 a b : Str} {k k2 : Nat} {c1 c2 c3 c4 p p2 p' : Pos} {i : Int} {z : Str} (hd : (y == ("__debug__" : Str)) = false) (hd2 : (y2 == ("__debug__" : Str)) = false) (ha : a.length ≤ 1000) (hz : z.length ≤ 1000) (hb : b.length ≤ 1000) (hi : i.natAbs.log2 < 1920) (v v2 : Value) (r : RelV (.str z) v) (r2 : RelV (.int i) v2) :
    MsgOk2 prog w y y2 ⟨.Constant (.str a) k c1, .FormattedValue (.Name y c2) (-1) none p, [.Constant (.str b) k2 c3, .FormattedValue (.Name y2 c4) (-1) none p2], p'⟩ v v2 := by
  obtain ⟨t, rfl⟩ : ∃ t, v = Value.str z t := r
  obtain ⟨t2, rfl⟩ : ∃ t, v2 = Value.int i t := r2
  intro A E s env m Q ek ky ky2 hn hy hy2 h
  have li := int_text_len_1921 hi
  have sl : sizeLine = 16777216 := sizeLine_eq
  have l1 : (Str.empty ++ a).length ≤ 1000 := by rw [Str.length_append]; exact (Nat.zero_add _).symm ▸ ha
  have l2 : (Str.empty ++ a ++ z).length ≤ 2000 := by rw [Str.length_append]; omega
  have l3 : (Str.empty ++ a ++ z ++ b).length ≤ 3000 := by rw [Str.length_append]; omega
  have l4 : (Str.empty ++ a ++ z ++ b ++ Str.ofString (toString i)).length ≤ sizeLine := by rw [Str.length_append, sl]; omega
  refine PyProof.Rows.JoinedStr_many (PyProof.Rows.joinParts_cons (wpAny_Constant_str ⟨by omega, ?_⟩))
  refine PyProof.Rows.joinParts_cons (PyProof.Rows.FormattedValue_plain (wpAny_Name (wpAny_loadName_local ek ky hn hy ?_) hd))
  refine PyProof.Rows.formatField_str (fun t' tk => ⟨by omega, ?_⟩) (by omega)
  refine PyProof.Rows.joinParts_consE (PyProof.Rows.joinParts_cons (wpAny_Constant_str ⟨by omega, ?_⟩))
  refine PyProof.Rows.joinParts_consE (PyProof.Rows.joinParts_cons (PyProof.Rows.FormattedValue_plain (wpAny_Name (wpAny_loadName_local ek ky2 hn hy2 ?_) hd2)))
  refine PyProof.Rows.formatField_int_small hi ⟨l4, ?_⟩
  exact PyProof.Rows.joinParts_nilE (PyProof.Rows.joinParts_nil (h _ _ _) l4)
end
end FF
set_option Elab.async false
set_option linter.all false
set_option maxRecDepth 100000
set_option maxHeartbeats 2000000
/-! walks over enumerate; calls of defs that may raise -/
namespace FF
open PySem PySem.Spec PyProof.Rows L2
theorem for_en {K : PySem.W.Frag} {a : Addr} {xs : List V} {g : TG} {tb : TS} {D : Ends} {σ : L2.St} {H : Hp} (Pv : Nat → L2.St → Hp → Prop) (h0 : Pv 0 σ H)
    (hl : ∀ i σ H, i ≤ xs.length → Pv i σ H → SqL K H a xs)
    (hs : ∀ i x σ H T, xs[i]? = some x → Pv i σ H → H T = none → g (.ref T) σ (upd H T (.tup [.int i, x])) fun σ2 H2 => tb { nx := Pv (i + 1), rt := D.rt, bk := D.nx, ct := Pv (i + 1) } σ2 H2)
    (hd : ∀ σ H, Pv xs.length σ H → D.nx σ H) :
    ∃ W : Nat → Nat → L2.St → Hp → Prop, (∃ m, W 0 m σ H) ∧ ∀ (i m : Nat) (σ : L2.St) (H : Hp), W i m σ H →
      ((Ite K a).stop i H ∧ D.nx σ H) ∨ ((Ite K a).go i H ∧ ∃ N : L2.St → Hp → Prop, (∀ σ' H', N σ' H' → ∃ m', m' < m ∧ W (i + 1) m' σ' H') ∧ ∀ x H', (Ite K a).yld i H x H' → g x σ H' fun σ2 H2 => tb { nx := N, rt := D.rt, bk := D.nx, ct := N } σ2 H2) := by
  refine ⟨fun i m σ H => i + m = xs.length ∧ Pv i σ H, ⟨xs.length, Nat.zero_add _, h0⟩, ?_⟩
  rintro i m σ H ⟨e, p⟩
  have hi : i ≤ xs.length := by omega
  have S := hl i σ H hi p
  cases m with
  | zero =>
    obtain rfl : i = xs.length := by omega
    exact .inl ⟨⟨xs, S, Nat.le_refl _⟩, hd σ H p⟩
  | succ m =>
    have hlt : i < xs.length := by omega
    have hx : xs[i]? = some xs[i] := List.getElem?_eq_getElem hlt
    refine .inr ⟨⟨xs, _, S, hx⟩, Pv (i + 1), fun σ' H' p' => ⟨m, Nat.lt_succ_self _, by omega, p'⟩, ?_⟩
    rintro x H' ⟨T, y, rfl, hT, rfl, hy⟩
    have := hy xs S
    exact hs i y σ H T this p hT
section
variable {R : Rg} {K : PySem.W.Frag} {σ : L2.St} {H Hn : Hp} {N : Addr → Prop} {D : Ends} {tu tz : TS}
/-- for i, x in enumerate(a list of data that stands) -/
theorem q_forEn {i j j2 : Nat} {v : V} {ds : List PyData} (hσ : σ[i]? = some (some v)) (r : Dt N Hn (.list ds) v) (sub : ∀ a, R.W a → N a) (Pv : Nat → L2.St → Hp → Prop) (h0 : Pv 0 σ H) (hle : ∀ i σ' H', Pv i σ' H' → Le R Hn H')
    (hs : ∀ i x v σ' H' H'', ds[i]? = some x → Pv i σ' H' → Le R H' H'' → Dt N H'' x v → tu { D with nx := Pv (i + 1), ct := Pv (i + 1), bk := tz D } ((σ'.set j (some (.int i))).set j2 (some v)) H'') (hd : ∀ σ' H', Pv ds.length σ' H' → tz D σ' H') :
    tSeq (tFor (iEnum K (tCons (tVar i) tNil)) (gTup K 2 (gCons (gName j) (gCons (gName j2) gNil))) tu) tz D σ H := by
  obtain ⟨a, xs, rfl, na, hl, ra⟩ := r.listy
  have naW : ¬ R.W a := fun w => na (sub a w)
  refine ⟨_, hσ, a, xs, rfl, SqL.of ((hle 0 σ H h0).ext a _ naW hl), for_en (D := { D with nx := tz D }) (xs := xs) Pv h0 (fun i σ' H' _ p => SqL.of ((hle i σ' H' p).ext a _ naW hl)) (fun i x σ' H' T hi p hT => ?_) (fun σ' H' p => ?_)⟩
  · obtain ⟨dx, hdx, rx⟩ := ra.getV hi
    have l0 := hle i σ' H' p
    obtain ⟨l1, -⟩ := new_t sub l0.ok hT (.cons (.int (i : Int)) (.cons (rx.le l0 sub) .nil))
    exact ⟨T, _, rfl, SqT.of upd_same, rfl, _, _, rfl, _, _, rfl, rfl, hs i dx x σ' H' _ hdx p l1 (rx.le (l0.trans l1) sub)⟩
  · rw [ra.length] at p
    exact hd σ' H' p
end
section
variable {X : Cx} {k : Nat} {x : Str} {p pos : Pos} {ps : List Str} {sp : Sp} {e : Expr} {es : List Expr} {t : TA} {W : WX}
theorem pe_calX (C : Cal X.prog X.w X.K X.mg X.base (L2.CX X.prog X.w) x k ps sp) (hr : Room k X.A) (tk : Takes X W) (ha : PA X (e :: es) t) (hg : Gl X x := by rfl) (hdb : (x == ("__debug__" : Str)) = false := by decide)
    (he : starEach (e :: es) X.env = (false, eval e X.env) :: starEach es X.env := by rfl) (hpl : (backTo pos (starEach es X.env)).any (·.1) = false := by rfl) : PE X (.Call (.Name x p) (e :: es) [] pos) (tCallS sp (WE W) t) := by
  obtain ⟨f, fd, a, b, c, d⟩ := C.ex
  exact pe_callS d hr hg a b c (fun σ => passAt tk σ) ha hdb he hpl
end
end FF
set_option Elab.async false
set_option linter.all false
set_option maxRecDepth 100000
set_option maxHeartbeats 2000000
/-! the program: signs; a text of signs only, or its first number that is none -/
namespace FF
open PySem PySem.Spec PyProof.Rows L2
def isSign (n : Int) : Bool := decide (0 ≤ n) && decide (n ≤ 999)
def badAt (ns : List Int) : Option Nat := ns.findIdx? fun n => !isSign n
def sp_is_sign (K : PySem.W.Frag) : Sp := fun vs H Q _ => ∃ n : Int, vs = [.int n] ∧ Q (.bl (isSign n)) H
def sp_is_letter (K : PySem.W.Frag) : Sp := fun vs H Q _ => ∃ n : Int, vs = [.int n] ∧ Q (.bl (decide (n < 800))) H
/-- the text's first number that is no sign, told by an error of the class at C -/
def sp_refuse (C : Addr) (y : Str) : Sp := fun vs H Q E => ∃ (v : V) (ns : List Int), vs = [v] ∧ Dt No H (.list (ns.map .int)) v ∧ ns.length ≤ 40000 ∧
  (badAt ns = none → ∀ H', Le R0 H H' → Q .non H') ∧ (∀ p, badAt ns = some p → ∀ H' d, Le R0 H H' → H' d = none → E (.ref C) (some d) (upd H' d (.xd [(y, .int (p : Int))])))
abbrev r_is_sign (K : PySem.W.Frag) : TS :=
    (tRet (tChain (rI0 fun i j => .bl (decide (i ≤ j))) (rI0 fun i j => .bl (decide (i ≤ j))) (tC (.int 0)) (tVar 0) (tC (.int 999))))
theorem rd_is_sign {K : PySem.W.Frag} (vs : List V) (H : Hp) (Q : VK) (E : XK) (h : sp_is_sign K vs H Q E) : r_is_sign K { nx := fun _ H' => Q .non H', rt := Q } (start ["number"] vs) H := by
  obtain ⟨n, rfl, q⟩ := h
  refine ⟨_, rfl, _, _, rfl, rfl, _, rfl, ?_⟩
  unfold isSign at q
  by_cases c : (0 : Int) ≤ n
  · rw [if_pos (decide_eq_true c)]
    rw [decide_eq_true c, Bool.true_and] at q
    exact ⟨_, _, rfl, rfl, q⟩
  · rw [decide_eq_false c, if_neg Bool.false_ne_true]
    rw [decide_eq_false c, Bool.false_and] at q
    exact q
abbrev r_is_letter (K : PySem.W.Frag) : TS :=
    (tRet (tOp (rI0 fun i j => .bl (decide (i < j))) (tVar 0) (tC (.int 800))))
theorem rd_is_letter {K : PySem.W.Frag} (vs : List V) (H : Hp) (Q : VK) (E : XK) (h : sp_is_letter K vs H Q E) : r_is_letter K { nx := fun _ H' => Q .non H', rt := Q } (start ["sign"] vs) H := by
  obtain ⟨n, rfl, q⟩ := h
  exact ⟨_, rfl, _, _, rfl, rfl, q⟩
abbrev r_refuse (P : Program) (w : World) (K : PySem.W.Frag) (C : Addr) (y : Str) (msg : XM) (E : XK) : TS :=
    (tFor (iEnum K (tCons (tVar 0) tNil)) (gTup K 2 (gCons (gName 1) (gCons (gName 2) gNil))) (tIfS (tNot (tTru K (tCall (sp_is_sign K) [] E0 (tCons (tVar 2) tNil)))) (tRaiseX P w C y msg (fun cls d _ H => E cls d H) (tCons (tVar 1) tNil)) tNext))
theorem e_is_sign {R : Rg} {K : PySem.W.Frag} {σ : L2.St} {H : Hp} {N : Addr → Prop} {i : Nat} {n : Int} (h : σ[i]? = some (some (.int n))) : Ev R (tCall (sp_is_sign K) [] E0 (tCons (tVar i) tNil)) σ H N (.bool (isSign n)) :=
  e_call (a_one (e_vi (N := No) h)) fun H1 vs e r Q q => by
    cases r with
    | cons r1 r2 => cases r1; cases r2; exact ⟨n, rfl, q _ _ (Le.refl e.ok) (.bl _)⟩
theorem rd_refuse {P : Program} {w : World} {K : PySem.W.Frag} {C : Addr} {y : Str} {msg : XM} (hm : ∀ i : Int, 0 ≤ i → i ≤ 40000 → ∀ v, RelV (.int i) v → MsgOk P w y msg v) (vs : List V) (H : Hp) (Q : VK) (E : XK) (h : sp_refuse C y vs H Q E) :
    r_refuse P w K C y msg E { nx := fun _ H' => Q .non H', rt := Q } (start ["text", "place", "number"] vs) H := by
  obtain ⟨v, ns, rfl, hv, hl, k1, k2⟩ := h
  have nW : ∀ (N : Addr → Prop) (a : Addr), R0.W a → N a := fun _ _ z => z.elim
  show tSeq (tFor (iEnum K (tCons (tVar 0) tNil)) (gTup K 2 (gCons (gName 1) (gCons (gName 2) gNil))) (tIfS (tNot (tTru K (tCall (sp_is_sign K) [] E0 (tCons (tVar 2) tNil)))) (tRaiseX P w C y msg (fun cls d _ H => E cls d H) (tCons (tVar 1) tNil)) tNext)) tNext { nx := fun _ H' => Q .non H', rt := Q } [some v, none, none] H
  refine q_forEn (R := R0) (N := No) (i := 0) (j := 1) (j2 := 2) (σ := [some v, none, none]) rfl hv (nW _) (fun i σ' H' => (∃ a b, σ' = [some v, a, b]) ∧ Le R0 H H' ∧ ∀ j, j < i → ∀ x, ns[j]? = some x → isSign x = true) ⟨⟨_, _, rfl⟩, Le.refl trivial, fun j hj => absurd hj (Nat.not_lt_zero _)⟩ (fun i σ' H' p => p.2.1) (fun i x u σ' H' H'' hi p l1 r => ?_) (fun σ' H' p => ?_)
  · obtain ⟨⟨a, b, rfl⟩, l0, hs⟩ := p
    obtain ⟨n, hn, rfl⟩ : ∃ n, ns[i]? = some n ∧ x = .int n := by
      rw [List.getElem?_map] at hi
      cases e : ns[i]? with
      | none => rw [e] at hi; cases hi
      | some n => rw [e] at hi; exact ⟨n, rfl, (Option.some.inj hi).symm⟩
    cases r
    refine s_if (R := R0) (t_not (t_trub (N := No) (e_is_sign (n := n) rfl))) trivial (fun c H2 e2 => ?_) (fun c H2 e2 => ?_)
    · have hb : badAt ns = some i := by
        unfold badAt
        have hlt : i < ns.length := by
          by_cases q : i < ns.length
          · exact q
          · rw [List.getElem?_eq_none (Nat.le_of_not_lt q)] at hn
            cases hn
        rw [List.findIdx?_eq_some_iff_getElem]
        refine ⟨hlt, ?_, fun j hj => ?_⟩
        · have : ns[i] = n := by
            have := List.getElem?_eq_getElem hlt
            rw [this] at hn
            exact Option.some.inj hn
          rw [this]
          exact c
        · have := hs j hj _ (List.getElem?_eq_getElem (Nat.lt_trans hj hlt))
          simp [this]
      have i4 : (i : Int) ≤ 40000 := by
        have : i < ns.length := (List.findIdx?_eq_some_iff_getElem.1 hb).1
        omega
      refine ⟨_, rfl, _, rfl, hm i (by omega) i4, fun d hd => ?_⟩
      exact k2 i hb H2 d ((l0.trans l1).trans e2) hd
    · refine ⟨⟨_, _, rfl⟩, (l0.trans l1).trans e2, fun j hj x hx => ?_⟩
      rcases Nat.lt_succ_iff_lt_or_eq.1 hj with h | rfl
      · exact hs j h x hx
      · rw [hn] at hx
        cases hx
        simpa using c
  · obtain ⟨⟨a, b, rfl⟩, l0, hs⟩ := p
    rw [List.length_map] at hs
    refine k1 ?_ H' l0
    unfold badAt
    rw [List.findIdx?_eq_none_iff]
    intro x hx
    obtain ⟨j, hj, e⟩ := List.getElem_of_mem hx
    have := hs j hj x (by rw [List.getElem?_eq_getElem hj, e])
    simp [this]
end FF
set_option Elab.async false
set_option linter.all false
set_option maxRecDepth 100000
set_option maxHeartbeats 2000000
/-! the program: the clusters of a text -/
namespace FF
open PySem PySem.Spec PyProof.Rows L2
def partStep (cs : List (List Int)) (n : Int) : List (List Int) := if n < 800 ∨ cs = [] then cs ++ [[n]] else cs.dropLast ++ [cs.getLastD [] ++ [n]]
def partsI (ns : List Int) : List (List Int) := ns.foldl partStep []
def sp_parted (C : Addr) (y : Str) : Sp := fun vs H Q E => ∃ (v : V) (ns : List Int), vs = [v] ∧ Dt No H (.list (ns.map .int)) v ∧ ns.length ≤ 40000 ∧
  (badAt ns = none → ∀ u H', Le R0 H H' → Dt (Dom H) H' (.list ((partsI ns).map fun c => .tuple (c.map .int))) u → Q u H') ∧ (∀ p, badAt ns = some p → ∀ H' d, Le R0 H H' → H' d = none → E (.ref C) (some d) (upd H' d (.xd [(y, .int (p : Int))])))
abbrev r_parted (K : PySem.W.Frag) (C : Addr) (y : Str) (E : XK) : TS :=
    (tSeq (tDrop (tCallS (sp_refuse C y) (WE fun cls d _ H => E cls d H) (tCons (tVar 0) tNil)))
    (tSeq (tAsg (tLst tNil) (gName 1))
    (tSeq (tFor (iList K (tVar 0)) (gName 2) (tIfS (tOr (tTru K (tCall (sp_is_letter K) [] E0 (tCons (tVar 2) tNil))) (tNot (tTru K (tVar 1)))) (tDrop (tBM K "list" rAppend (tVar 1) (tCons (tLst (tCons (tVar 2) tNil)) tNil))) (tDrop (tBM K "list" rAppend (tOp (rIx K) (tVar 1) (tUn (rU fun i => .int (-i)) (tC (.int 1)))) (tCons (tVar 2) tNil)))))
    (tRet (tLc (iList K (tVar 1)) (gName 3) tYes (tCB (rTupU K) (tCons (tVar 3) tNil)) [3])))))
theorem e_is_letter {R : Rg} {K : PySem.W.Frag} {σ : L2.St} {H : Hp} {N : Addr → Prop} {i : Nat} {n : Int} (h : σ[i]? = some (some (.int n))) : Ev R (tCall (sp_is_letter K) [] E0 (tCons (tVar i) tNil)) σ H N (.bool (decide (n < 800))) :=
  e_call (a_one (e_vi (N := No) h)) fun H1 vs e r Q q => by
    cases r with
    | cons r1 r2 => cases r1; cases r2; exact ⟨n, rfl, q _ _ (Le.refl e.ok) (.bl _)⟩
/-- the list at p of lists at as, all of them new since H0 -/
structure Cls (H0 H : Hp) (p : Addr) (as : List Addr) (cs : List (List Int)) (b : Nat) : Prop where
  at_ : H p = some (.lst (as.map V.ref))
  len : as.length = cs.length
  nd : (p :: as).Nodup
  own : ∀ (k : Nat) (a : Addr) (c : List Int), as[k]? = some a → cs[k]? = some c → H a = some (.lst (c.map V.int))
  new0 : H0 p = none
  new : ∀ a ∈ as, H0 a = none
  lb : cs.length ≤ b
  cb : ∀ c ∈ cs, c.length ≤ b
theorem Cls.keep {H0 H H' : Hp} {p : Addr} {as : List Addr} {cs : List (List Int)} {b : Nat} (h : Cls H0 H p as cs b) (k : Le R0 H H') : Cls H0 H' p as cs b :=
  ⟨k.ext _ _ (fun z => z) h.at_, h.len, h.nd, fun i a c e1 e2 => k.ext _ _ (fun z => z) (h.own i a c e1 e2), h.new0, h.new, h.lb, h.cb⟩
theorem Cls.dt {H0 H : Hp} {p : Addr} {as : List Addr} {cs : List (List Int)} {b : Nat} (h : Cls H0 H p as cs b) : Dt (Dom H0) H (.list (cs.map fun c => .list (c.map .int))) (.ref p) := by
  refine .lst (fun ⟨o, e⟩ => by rw [h.new0] at e; cases e) h.at_ ?_
  have key : ∀ (as : List Addr) (cs : List (List Int)), as.length = cs.length → (∀ (k : Nat) (a : Addr) (c : List Int), as[k]? = some a → cs[k]? = some c → H a = some (.lst (c.map V.int))) → (∀ a ∈ as, H0 a = none) → DtA (Dom H0) H (cs.map fun c => .list (c.map .int)) (as.map V.ref) := by
    intro as
    induction as with
    | nil =>
      intro cs hl _ _
      cases cs with
      | nil => exact .nil
      | cons c cs => cases hl
    | cons a as ih =>
      intro cs hl ho hn
      cases cs with
      | nil => cases hl
      | cons c cs =>
        refine .cons (.lst (fun ⟨o, e⟩ => by rw [hn a List.mem_cons_self] at e; cases e) (ho 0 a c rfl rfl) ?_) (ih cs (Nat.succ.inj hl) (fun k a' c' e1 e2 => ho (k + 1) a' c' e1 e2) fun a' ha => hn a' (List.mem_cons_of_mem _ ha))
        generalize c = l
        induction l with
        | nil => exact .nil
        | cons z l ih => exact .cons (.int z) ih
  exact key as cs h.len h.own h.new
/-- one more cluster -/
theorem Cls.more {H0 H : Hp} {p q : Addr} {as : List Addr} {cs : List (List Int)} {b : Nat} {n : Int} (h : Cls H0 H p as cs b) (l : Le R0 H0 H) (hq : H q = none) :
    Cls H0 (upd (upd H q (.lst [.int n])) p (.lst (as.map V.ref ++ [.ref q]))) p (as ++ [q]) (cs ++ [[n]]) (b + 1) := by
  have qp : q ≠ p := fun e => by rw [e, h.at_] at hq; cases hq
  have qa : ∀ a ∈ as, a ≠ q := fun a ha e => by
    obtain ⟨k, hk, ek⟩ := List.getElem_of_mem ha
    have h2 : k < cs.length := by rw [← h.len]; exact hk
    have := h.own k a _ (by rw [List.getElem?_eq_getElem hk, ek]) (List.getElem?_eq_getElem h2)
    rw [e, hq] at this
    cases this
  have pa : ∀ a ∈ as, a ≠ p := fun a ha e => (List.nodup_cons.1 h.nd).1 (e ▸ ha)
  refine ⟨?_, ?_, ?_, ?_, h.new0, ?_, ?_, ?_⟩
  · rw [upd_same, List.map_append]; rfl
  · rw [List.length_append, List.length_append, h.len]; rfl
  · obtain ⟨n1, n2⟩ := List.nodup_cons.1 h.nd
    refine List.nodup_cons.2 ⟨fun m => ?_, ?_⟩
    · rcases List.mem_append.1 m with m | m
      · exact n1 m
      · exact qp (List.mem_singleton.1 m).symm
    · refine List.nodup_append.2 ⟨n2, by simp, fun a ha b' hb e => ?_⟩
      rw [List.mem_singleton.1 hb] at e
      exact qa a ha e
  · intro k a c e1 e2
    by_cases hk : k < as.length
    · rw [List.getElem?_append_left hk] at e1
      rw [List.getElem?_append_left (by rw [← h.len]; exact hk)] at e2
      have ha := List.mem_of_getElem? e1
      rw [upd_ne (pa a ha), upd_ne (qa a ha)]
      exact h.own k a c e1 e2
    · rw [List.getElem?_append_right (Nat.le_of_not_lt hk)] at e1
      rw [List.getElem?_append_right (by rw [← h.len]; exact Nat.le_of_not_lt hk), ← h.len] at e2
      have k0 : k - as.length = 0 := by
        by_cases z : k - as.length = 0
        · exact z
        · rw [List.getElem?_eq_none (by simp; omega)] at e1
          cases e1
      rw [k0] at e1 e2
      cases e1; cases e2
      rw [upd_ne qp, upd_same]
      rfl
  · intro a ha
    rcases List.mem_append.1 ha with m | m
    · exact h.new a m
    · rw [List.mem_singleton.1 m]
      exact l.back _ hq
  · rw [List.length_append]
    exact Nat.succ_le_succ h.lb
  · intro c hc
    rcases List.mem_append.1 hc with m | m
    · exact Nat.le_succ_of_le (h.cb c m)
    · rw [List.mem_singleton.1 m]
      exact Nat.succ_le_succ (Nat.zero_le _)
/-- one more sign of the last cluster -/
theorem Cls.last {H0 H : Hp} {p z : Addr} {as : List Addr} {cs : List (List Int)} {c : List Int} {b : Nat} {n : Int} (h : Cls H0 H p (as ++ [z]) (cs ++ [c]) b) :
    Cls H0 (upd H z (.lst (c.map V.int ++ [.int n]))) p (as ++ [z]) (cs ++ [c ++ [n]]) (b + 1) := by
  have hl : as.length = cs.length := by have := h.len; simpa using this
  obtain ⟨n1, n2⟩ := List.nodup_cons.1 h.nd
  have pz : p ≠ z := fun e => n1 (e ▸ by simp)
  have az : ∀ a ∈ as, a ≠ z := fun a ha e => (List.nodup_append.1 n2).2.2 a ha z (by simp) e
  refine ⟨?_, ?_, h.nd, ?_, h.new0, h.new, ?_, ?_⟩
  · rw [upd_ne pz]; exact h.at_
  · rw [List.length_append, List.length_append, hl]; rfl
  · intro k a c' e1 e2
    by_cases hk : k < as.length
    · have e1' := e1
      rw [List.getElem?_append_left hk] at e1'
      rw [List.getElem?_append_left (by rw [← hl]; exact hk)] at e2
      rw [upd_ne (az a (List.mem_of_getElem? e1'))]
      exact h.own k a c' e1 (by rw [List.getElem?_append_left (by rw [← hl]; exact hk)]; exact e2)
    · rw [List.getElem?_append_right (Nat.le_of_not_lt hk)] at e1
      rw [List.getElem?_append_right (by rw [← hl]; exact Nat.le_of_not_lt hk), ← hl] at e2
      have k0 : k - as.length = 0 := by
        by_cases q : k - as.length = 0
        · exact q
        · rw [List.getElem?_eq_none (by simp; omega)] at e1
          cases e1
      rw [k0] at e1 e2
      cases e1; cases e2
      rw [upd_same, List.map_append]
      rfl
  · have := h.lb
    rw [List.length_append] at this ⊢
    exact Nat.le_succ_of_le this
  · intro c' hc
    rcases List.mem_append.1 hc with m | m
    · exact Nat.le_succ_of_le (h.cb c' (List.mem_append_left _ m))
    · rw [List.mem_singleton.1 m, List.length_append]
      exact Nat.succ_le_succ (h.cb c (by simp))
theorem atI_last {α : Type} (l : List α) (x : α) : atI (l ++ [x]) (-1) = some x := by
  unfold atI ixN
  have e : (l ++ [x]).length = l.length + 1 := by simp
  rw [e]
  have h1 : ¬ (0 : Int) ≤ -1 := by decide
  have h2 : -((l.length + 1 : Nat) : Int) ≤ -1 := by omega
  have h3 : ((-1 : Int) + ((l.length + 1 : Nat) : Int)).toNat = l.length := by omega
  rw [if_neg h1, if_pos h2, h3]
  show (l ++ [x])[l.length]? = some x
  simp
theorem parts_more {ns : List Int} {i : Nat} {z : Int} (h : ns[i]? = some z) : partsI (ns.take (i + 1)) = partStep (partsI (ns.take i)) z := by
  unfold partsI
  rw [List.take_succ, h, List.foldl_append]
  rfl
theorem map_range {α : Type} {l : List α} {f : α → PyData} {g : Nat → PyData} (h : ∀ (i : Nat) (x : α), l[i]? = some x → g i = f x) : (List.range l.length).map g = l.map f := by
  refine List.ext_getElem? fun k => ?_
  rw [List.getElem?_map, List.getElem?_map]
  by_cases hk : k < l.length
  · rw [List.getElem?_range hk, List.getElem?_eq_getElem hk]
    exact congrArg some (h k _ (List.getElem?_eq_getElem hk))
  · rw [List.getElem?_eq_none (by simpa using hk), List.getElem?_eq_none (by simpa using hk)]
    rfl
theorem rd_parted {K : PySem.W.Frag} {C : Addr} {y : Str} (vs : List V) (H : Hp) (Q : VK) (E : XK) (h : sp_parted C y vs H Q E) : r_parted K C y E { nx := fun _ H' => Q .non H', rt := Q } (start ["text", "clusters", "sign", "cluster"] vs) H := by
  obtain ⟨v, ns, rfl, hv, hl, k1, k2⟩ := h
  have nW : ∀ (N : Addr → Prop) (a : Addr), R0.W a → N a := fun _ _ z => z.elim
  refine ⟨v, rfl, v, ns, rfl, hv, hl, fun hb H1 e1 => ?_, fun p hp => k2 p hp⟩
  refine ⟨by rw [sizeLine_eq]; simp, fun p hp => ?_⟩
  have e2 : Le R0 H (upd H1 p (.lst [])) := e1.trans (Le.new hp e1.ok)
  refine q_forLd (R := R0) (N := No) (i := 0) (j := 2) (σ := [some v, some (.ref p), none, none]) rfl hv (nW _) (fun i σ' H' => (∃ a, σ' = [some v, some (.ref p), a, none]) ∧ Le R0 H H' ∧ ∃ as, Cls H H' p as (partsI (ns.take i)) i) ⟨⟨_, rfl⟩, e2, [], upd_same, rfl, by simp, fun k a c e => (by simp at e), e1.back _ hp, fun a ha => (by simp at ha), Nat.le_refl _, fun c hc => (by simp [partsI] at hc)⟩ (fun i σ' H' p => p.2.1) (fun i x u σ' H' hi pv r => ?_) (fun σ' H' pv => ?_)
  · obtain ⟨⟨a, rfl⟩, l0, as, cl⟩ := pv
    obtain ⟨n, hn, rfl⟩ : ∃ n, ns[i]? = some n ∧ x = .int n := by
      rw [List.getElem?_map] at hi
      cases e : ns[i]? with
      | none => rw [e] at hi; cases hi
      | some n => rw [e] at hi; exact ⟨n, rfl, (Option.some.inj hi).symm⟩
    cases r
    have hi4 : i < 40000 := by
      by_cases q : i < ns.length
      · omega
      · rw [List.getElem?_eq_none (Nat.le_of_not_lt q)] at hn
        cases hn
    have step := parts_more hn
    have lb := cl.lb
    have t1 : EvT R0 (tOr (tTru K (tCall (sp_is_letter K) [] E0 (tCons (tVar 2) tNil))) (tNot (tTru K (tVar 1)))) [some v, some (.ref p), some (.int n), none] H' (decide (n < 800) || !(!((partsI (ns.take i)).map fun c => PyData.list (c.map .int)).isEmpty)) :=
      t_or (t_trub (N := No) (e_is_letter rfl)) fun _ => t_not (t_trul (N := Dom H) (e_var rfl cl.dt (nW _)))
    refine s_if (R := R0) t1 trivial (fun c H2 e3 => ?_) (fun c H2 e3 => ?_)
    · have c2 : n < 800 ∨ partsI (ns.take i) = [] := by
        rw [Bool.not_not, Bool.or_eq_true] at c
        rcases c with c | c
        · exact .inl (of_decide_eq_true c)
        · refine .inr ?_
          cases hq : partsI (ns.take i) with
          | nil => rfl
          | cons a r => rw [hq] at c; simp at c
      have cl2 := cl.keep e3
      refine ⟨_, rfl, .inl ⟨rfl, _, SqL.of cl2.at_⟩, _, rfl, by rw [sizeLine_eq]; simp, fun q hq => ⟨p, as.map V.ref, .ref q, rfl, rfl, ?_, ?_, ?_⟩⟩
      · rw [upd_ne (fun e => by rw [← e, cl2.at_] at hq; cases hq)]
        exact cl2.at_
      · rw [List.length_map, cl2.len, sizeLine_eq]
        omega
      · refine ⟨⟨_, rfl⟩, ?_, as ++ [q], ?_⟩
        · refine ⟨fun b o _ hb => ?_, fun b hb => ?_, trivial, trivial⟩
          · have h2 : H2 b = some o := e3.ext b o (fun z => z) (l0.ext b o (fun z => z) hb)
            rw [upd_ne (fun e => by rw [e, cl2.new0] at hb; cases hb), upd_ne (fun e => by rw [e, hq] at h2; cases h2)]
            exact h2
          · by_cases ep : b = p
            · rw [ep]; exact cl2.new0
            · rw [upd_ne ep] at hb
              by_cases eq : b = q
              · rw [eq]; exact (l0.trans e3).back _ hq
              · rw [upd_ne eq] at hb
                exact (l0.trans e3).back _ hb
        · rw [step]
          unfold partStep
          rw [if_pos c2]
          exact cl2.more (l0.trans e3) hq
    · have c2 : ¬ (n < 800 ∨ partsI (ns.take i) = []) := by
        rw [Bool.not_not, Bool.or_eq_false_iff] at c
        rintro (d | d)
        · rw [decide_eq_true d] at c
          exact absurd c.1 (by simp)
        · rw [d] at c
          exact absurd c.2 (by simp)
      have cl2 := cl.keep e3
      have hne : partsI (ns.take i) ≠ [] := fun e => c2 (.inr e)
      obtain ⟨cs, c0, hcs⟩ : ∃ cs c0, partsI (ns.take i) = cs ++ [c0] := ⟨_, _, (List.dropLast_concat_getLast hne).symm⟩
      rw [hcs] at cl2 step
      obtain ⟨az, z, rfl⟩ : ∃ az z, as = az ++ [z] := by
        have : as ≠ [] := fun e => by
          have q := cl2.len
          rw [e] at q
          simp at q
        exact ⟨_, _, (List.dropLast_concat_getLast this).symm⟩
      have laz : az.length = cs.length := by have := cl2.len; simpa using this
      have hz : H2 z = some (.lst (c0.map V.int)) := cl2.own az.length z c0 (by simp) (by rw [laz]; simp)
      have hat : atI ((az ++ [z]).map V.ref) (-1) = some (.ref z) := by
        rw [List.map_append]
        exact atI_last _ _
      refine ⟨_, rfl, _, rfl, .inl ⟨p, _, _, _, rfl, rfl, SqL.of cl2.at_, hat, .inl ⟨rfl, _, SqL.of hz⟩, _, rfl, z, _, _, rfl, rfl, hz, ?_, ?_⟩⟩
      · rw [List.length_map, sizeLine_eq]
        have := cl2.cb c0 (by simp)
        omega
      · refine ⟨⟨_, rfl⟩, ?_, az ++ [z], ?_⟩
        · have z0 : H z = none := cl2.new z (by simp)
          refine ⟨fun b o _ hb => ?_, fun b hb => ?_, trivial, trivial⟩
          · rw [upd_ne (fun e => by rw [e, z0] at hb; cases hb)]
            exact e3.ext b o (fun z => z) (l0.ext b o (fun z => z) hb)
          · by_cases ep : b = z
            · rw [ep]; exact z0
            · rw [upd_ne ep] at hb
              exact (l0.trans e3).back _ hb
        · rw [step]
          unfold partStep
          rw [if_neg (by rw [← hcs]; exact c2), List.dropLast_concat]
          have : (cs ++ [c0]).getLastD [] = c0 := by simp
          rw [this]
          exact cl2.last
  · obtain ⟨⟨a, rfl⟩, l0, as, cl⟩ := pv
    rw [List.length_map, List.take_length] at cl
    refine s_retP (R := R0) (N := Dom H) (φp := fun d => d = .list ((partsI ns).map fun c => .tuple (c.map .int))) ?_ trivial fun d u H2 e3 hd r => ?_
    · have lp : ((partsI ns).map fun c => PyData.list (c.map .int)).length = (partsI ns).length := List.length_map ..
      have nk : Nk R0 (Dom H) H' := ⟨nW _, fun b ⟨o, hb⟩ e => by rw [l0.back _ e] at hb; cases hb⟩
      refine (p_lcL (N0 := Dom H) (ds := (partsI ns).map fun c => PyData.list (c.map .int)) (fun i o => o = if true = true then some (PyData.tuple (((partsI ns).getD i []).map .int)) else none) (e_var rfl cl.dt (nW _)) (nW _) (by rw [lp]; have := cl.lb; omega) nk (fun _ => rfl) fun i x u D H2 hD e4 nk2 hi r => ?_).imp fun d o => ?_
      · have hx : x = PyData.list (((partsI ns).getD i []).map .int) := by
          rw [List.getElem?_map] at hi
          rw [List.getD_eq_getElem?_getD]
          cases e : (partsI ns)[i]? with
          | none => rw [e] at hi; cases hi
          | some c => rw [e] at hi; exact (Option.some.inj hi).symm
        subst hx
        exact f_det (b := true) t_yes fun _ => e_tuple (e_var rfl r (nW _)) (nW _)
      · have q := out_det (f := fun _ => true) (g := fun i => PyData.tuple (((partsI ns).getD i []).map .int)) o
        rw [q, List.filter_eq_self.2 (fun _ _ => rfl), lp]
        refine congrArg PyData.list (map_range fun i x hx => ?_)
        rw [List.getD_eq_getElem?_getD, hx]
        rfl
    · subst hd
      exact k1 hb u H2 (l0.trans e3) r
end FF
set_option Elab.async false
set_option linter.all false
set_option maxRecDepth 100000
set_option maxHeartbeats 2000000
/-! the program's clusters are the law's -/
namespace FF
open PySem PySem.Spec PyProof.Rows L2
theorem range_zip {a b : List Nat} (h : b.length = a.length) : (List.range a.length).map (fun k => (a.getD k 0, b.getD k 0)) = a.zip b := by
  refine List.ext_getElem (by simp [h]) fun i h1 h2 => ?_
  have hb : i < a.length := by simpa using h1
  rw [List.getElem_map, List.getElem_range, List.getElem_zip, List.getD_eq_getElem?_getD, List.getD_eq_getElem?_getD, List.getElem?_eq_getElem hb, List.getElem?_eq_getElem (by rw [h]; exact hb)]
  rfl
theorem clusP_zip (t : List Int) (h : t ≠ []) : clusP t = (begs t).zip (ends t) := range_zip (ends_len t h)
theorem begs_snoc (s : List Int) (z : Int) : begs (s ++ [z]) = begs s ++ (if s = [] ∨ z < 800 then [s.length] else []) := by
  unfold begs
  rw [List.length_append, List.length_singleton, List.range_succ, List.filter_append]
  have e1 : (List.range s.length).filter (fun k => decide (k = 0) || decide ((s ++ [z]).getD k 0 < 800)) = (List.range s.length).filter (fun k => decide (k = 0) || decide (s.getD k 0 < 800)) := by
    refine List.filter_congr fun k hk => ?_
    rw [List.getD_eq_getElem?_getD, List.getD_eq_getElem?_getD, List.getElem?_append_left (List.mem_range.1 hk)]
  rw [e1]
  refine congrArg _ ?_
  have e2 : (s ++ [z]).getD s.length 0 = z := by
    rw [List.getD_eq_getElem?_getD]
    simp
  have e3 : (decide (s.length = 0) || decide ((s ++ [z]).getD s.length 0 < 800)) = decide (s = [] ∨ z < 800) := by
    rw [e2]
    cases s <;> simp
  by_cases c : s = [] ∨ z < 800
  · rw [if_pos c]
    rw [decide_eq_true c] at e3
    simp only [List.filter, e3]
  · rw [if_neg c]
    rw [decide_eq_false c] at e3
    simp only [List.filter, e3]
theorem cutT_snoc {s : List Int} {z : Int} {p : Nat × Nat} (h : p.2 ≤ s.length) (h1 : p.1 ≤ p.2) : cutT (s ++ [z]) p = cutT s p := by
  unfold cutT
  rw [List.drop_append_of_le_length (Nat.le_trans h1 h), List.take_append_of_le_length (by rw [List.length_drop]; omega)]
theorem cutT_last {s : List Int} {z : Int} {b : Nat} (h : b ≤ s.length) : cutT (s ++ [z]) (b, s.length + 1) = cutT s (b, s.length) ++ [z] := by
  unfold cutT
  show ((s ++ [z]).drop b).take (s.length + 1 - b) = (s.drop b).take (s.length - b) ++ [z]
  rw [List.drop_append_of_le_length h, List.take_of_length_le (by simp; omega), List.take_of_length_le (by simp)]
theorem parts_clus : ∀ (n : Nat) (t : List Int), t.length = n → (clusP t).map (cutT t) = partsI t
  | 0, t, h => by
    obtain rfl := List.length_eq_zero_iff.1 h
    rfl
  | n + 1, t, h => by
    have hne : t ≠ [] := fun e => by rw [e] at h; cases h
    obtain ⟨s, z, rfl⟩ : ∃ s z, t = s ++ [z] := ⟨_, _, (List.dropLast_concat_getLast hne).symm⟩
    have hs : s.length = n := by simpa using h
    have ih := parts_clus n s hs
    have st : partsI (s ++ [z]) = partStep (partsI s) z := by
      unfold partsI
      rw [List.foldl_append]
      rfl
    rw [st, clusP_zip _ hne]
    by_cases s0 : s = []
    · subst s0
      have b1 : begs ([] ++ [z]) = [0] := begs_snoc [] z
      have e1 : ends ([] ++ [z]) = [1] := by
        unfold ends
        rw [b1]
        rfl
      have p1 : partStep (partsI []) z = [[z]] := by
        unfold partStep
        rw [if_pos (.inr rfl)]
        rfl
      rw [b1, e1, p1]
      rfl
    · have bs := begs_snoc s z
      have es : ends (s ++ [z]) = (begs (s ++ [z])).drop 1 ++ [s.length + 1] := by
        unfold ends
        rw [List.length_append, List.length_singleton]
      have z0 := clusP_zip s s0
      have el := ends_len s s0
      have b0 : begs s ≠ [] := fun e => by
        rw [e] at el
        unfold ends at el
        rw [e] at el
        cases el
      have ok := clusP_ok s
      rw [z0] at ih ok
      have same : ((begs s).zip (ends s)).map (cutT (s ++ [z])) = ((begs s).zip (ends s)).map (cutT s) := List.map_congr_left fun p hp => cutT_snoc (ok p hp).2 (Nat.le_of_lt (ok p hp).1)
      have len0 : partsI s ≠ [] := fun e => by
        rw [e] at ih
        have := congrArg List.length ih
        rw [List.length_map, List.length_zip, el, Nat.min_self] at this
        exact b0 (List.length_eq_zero_iff.1 this)
      by_cases c : z < 800
      · rw [if_pos (.inr c)] at bs
        have e2 : ends (s ++ [z]) = ends s ++ [s.length + 1] := by
          rw [es, bs]
          unfold ends
          rw [List.drop_append_of_le_length (by have := List.length_pos_iff.2 b0; omega)]
        rw [bs, e2, List.zip_append el.symm, List.map_append, same, ih]
        unfold partStep
        rw [if_pos (.inl c)]
        refine congrArg _ ?_
        show [cutT (s ++ [z]) (s.length, s.length + 1)] = [[z]]
        rw [cutT_last (Nat.le_refl _)]
        unfold cutT
        simp
      · have c' : ¬ (s = [] ∨ z < 800) := fun h => h.elim s0 c
        rw [if_neg c', List.append_nil] at bs
        obtain ⟨B, b, hB⟩ : ∃ B b, begs s = B ++ [b] := ⟨_, _, (List.dropLast_concat_getLast b0).symm⟩
        have dl : B.length = ((begs s).drop 1).length := by
          rw [List.length_drop, hB, List.length_append, List.length_singleton]
          omega
        have zs : (begs s).zip (ends s) = B.zip ((begs s).drop 1) ++ [(b, s.length)] := by
          unfold ends
          rw [show (begs s).zip ((begs s).drop 1 ++ [s.length]) = (B ++ [b]).zip ((begs s).drop 1 ++ [s.length]) by rw [← hB], List.zip_append dl]
          rfl
        have zt : (begs (s ++ [z])).zip (ends (s ++ [z])) = B.zip ((begs s).drop 1) ++ [(b, s.length + 1)] := by
          rw [es, bs, show (begs s).zip ((begs s).drop 1 ++ [s.length + 1]) = (B ++ [b]).zip ((begs s).drop 1 ++ [s.length + 1]) by rw [← hB], List.zip_append dl]
          rfl
        rw [zs, List.map_append] at same ih
        rw [List.map_append] at same
        have s1 := List.append_inj_left same (by rw [List.length_map, List.length_map])
        rw [zt, List.map_append, s1]
        have hbl : b ≤ s.length := by
          have := ok (b, s.length) (by rw [zs]; simp)
          exact Nat.le_of_lt this.1
        unfold partStep
        have c2 : ¬ (z < 800 ∨ partsI s = []) := fun h => h.elim c len0
        rw [if_neg c2, ← ih]
        show _ ++ [cutT (s ++ [z]) (b, s.length + 1)] = _
        rw [cutT_last hbl]
        simp
end FF
set_option Elab.async false
set_option linter.all false
set_option maxRecDepth 100000
set_option maxHeartbeats 4000000
/-! all(test for x in e): e a text, a list, a tuple; the test any quiet expression -/
namespace FF
open PySem PySem.Spec PyProof.Rows L2
open GxR (TabB TabG Tabbed GenS keeps_refl keeps_tok inv_tab sh_eta)

/-- the scope of a generator expression of one name within the scope sc -/
structure GenK (sc scope : Scope) (x : Str) : Prop where
  kind : scope.kind = .function
  co : scope.isCoroutine = false
  cell : ∀ y ∈ scope.names, y.2 ≠ .cell
  dot : scope.names.lookup (".0" : Str) = some NameKind.local
  loc : scope.names.lookup x = some .local
  free : ∀ y ∈ scope.names, y.2 = .free → sc.names.lookup y.1 = some .cell ∨ sc.names.lookup y.1 = some .free
def genKB (sc scope : Scope) (x : Str) : Bool :=
  decide (scope.kind = .function) && !scope.isCoroutine && decide (scope.names.lookup (".0" : Str) = some NameKind.local) && decide (scope.names.lookup x = some NameKind.local) && scope.names.all fun y => !decide (y.2 = .cell) && (!decide (y.2 = .free) || decide (sc.names.lookup y.1 = some .cell) || decide (sc.names.lookup y.1 = some .free))
theorem genK_by {sc scope : Scope} {x : Str} (h : genKB sc scope x = true) : GenK sc scope x := by
  unfold genKB at h
  simp only [Bool.and_eq_true, Bool.or_eq_true, Bool.not_eq_true', decide_eq_true_eq, decide_eq_false_iff_not, List.all_eq_true] at h
  obtain ⟨⟨⟨⟨h1, h2⟩, h3⟩, h4⟩, h5⟩ := h
  refine ⟨h1, h2, fun y hy => (h5 y hy).1, h3, h4, fun y hy e => ?_⟩
  rcases (h5 y hy).2 with (z | z) | z
  · exact absurd e z
  · exact .inl z
  · exact .inr z
theorem GenK.has {X : Cx} {scope : Scope} {x : Str} (L : GenK X.env.scope scope x) (ok : X.Ok) : ∀ y ∈ scope.names, y.2 = .free → ∃ c, X.env.cells.lookup y.1 = some c := fun y hy e => by
  rcases L.free y hy e with k | k
  · exact ok.has _ (.inl k)
  · exact ok.has _ (.inr k)
/-- where the element of a generator expression is evaluated -/
structure GIn (X : Cx) (P : Addr) (scope : Scope) (s1 : Shared) (cenv : Env) (A' : Around) (s₂ : Shared) : Prop where
  sc : cenv.scope = scope
  cells : cenv.cells = cloFrom X.env.cells scope.names []
  glob : cenv.globals = X.env.globals
  hd : A'.handled = none
  dp : A'.depth ≤ X.A.depth + 1
  un : A'.units ≤ X.A.units + 8
  kp : ∀ b o, b ≠ P → s1.heap.get? b = some o → s₂.heap.get? b = some o

/-- a source: n turns, the i-th gives what F says -/
def Src (X : Cx) (P : Addr) (s1 : Shared) (u : Value) (n : Nat) (F : Nat → Value → Prop) : Prop :=
  ∀ (Q : Value → Shared → Prop) (E : Value → Shared → Prop), (∀ (o : Obj) (fp : List Addr) (St : Nat → Heap → Prop), (∀ A' : Around, A'.handled = none → Walks X.prog X.w A' s1.heap.objs.size fp [s1.heap.objs.size] n F St) → St 0 (s1.heap.push o) → (∀ b ∈ fp, b = s1.heap.objs.size ∨ (b < s1.heap.objs.size ∧ b ≠ P)) → Q (.ref s1.heap.objs.size) { s1 with heap := s1.heap.push o }) → wpAny (model X.prog X.w) X.A (pyIter u) Q E s1

def trB (bs : List Bool) (j : Nat) : Bool := bs.getD j false
/-- the generator g, ready to be walked, in the state s5; H1: what was held before -/
def ReadyB (X : Cx) (pins : List (Addr × Obj)) (σ : L2.St) (H1 : Hp) (P : Addr) (bs : List Bool) (g : Addr) (s5 : Shared) : Prop :=
  ∃ (fp wr : List Addr) (G : Array GenState → Array GenState → Prop) (F : Nat → Value → Prop) (St : Nat → Shared → Prop),
    WalksS X.prog X.w X.A.in1 g fp wr G bs.length F St ∧ St 0 s5 ∧ TruthOf X.prog X.w X.A.in1 F (trB bs) ∧
    ∀ s', Moved wr G s5 s' → ∃ H2, Tabbed P H1 H2 ∧ Inv X pins σ H2 s'
section
variable {X : Cx} {pins : List (Addr × Obj)} {σ : L2.St} {H : Hp} {s : Shared}
theorem gen_at {c P : Addr} {elt iter : Expr} {x : Str} {px gpos : Pos} {scope : Scope} {te : TE} {k : Nat} {Q' : Value → Shared → Prop} {R : List Bool → Hp → Prop}
    (hr : Room k X.A) (TB : TabB X.base X.mg c P) (hcode : X.env.code = .ref c) (S : GenK X.env.scope scope x) (hi : PE X iter te)
    (hs : ∀ v, genFold iter X.env v = pure v) (I : Inv X pins σ H s)
    (h : te σ H fun v H1 => TabG H1 P ∧ ∃ bs : List Bool, R bs H1 ∧ ∀ (u : Value) (s1 : Shared), Inv X pins σ H1 s1 → RelV v u → ∃ F, Src X P s1 u bs.length F ∧ (∀ i v', F i v' → i < bs.length) ∧
      ∀ (cenv : Env) (A' : Around) (E' : Value → Shared → Prop) (i : Nat) (v' : Value) (s₂ : Shared) m₂, GIn X P scope s1 cenv A' s₂ → F i v' → s₂.heap.Ns cenv.locals m₂ → m₂ x = some v' →
        wpAny (model X.prog X.w) A' (eval elt cenv) (fun y s₃ => y = .bool (trB bs i) ∧ Keeps s₂ s₃) E' s₂)
    (hQ : ∀ bs H1 g s5, R bs H1 → ReadyB X pins σ H1 P bs g s5 → Q' (.ref g) s5) :
    wpAny (model X.prog X.w) X.A (eval (.GeneratorExp elt [⟨.Name x px, iter, [], 0⟩] scope gpos) X.env) Q' X.xe s := by
  refine wpAny_GeneratorExp_walksQD hr.hd S.co (closure_ok (S.has I.ok)) S.cell S.dot S.loc S.kind (by have := hr.dp; omega) ?_ hs
  refine thn (hi.run pins s σ H _ I h) fun xv s1 ⟨v, H1, I1, r1, q1⟩ => ?_
  obtain ⟨⟨ps, hP, ht⟩, bs, q1, hsrc⟩ := q1
  obtain ⟨Fs, src, hbd, hel⟩ := hsrc xv s1 I1 r1
  refine src _ _ fun o fp St W hst hfp => ?_
  have hPs : s1.heap.get? P = some { cls := .none, data := .fields ps } := I1.hok P _ hP
  have hPlt : P < s1.heap.objs.size := Heap.lt_size hPs
  have hP2 : (s1.heap.push o).get? P = some { cls := .none, data := .fields ps } := Heap.get?_push_of_some _ hPs
  have cd : PySem.W.CodeHd (s1.heap.push o) c P := TB.code.keeps fun b u e => Heap.get?_push_of_some _ (I1.bk b u e)
  have lim2 : (s1.heap.push o).NoLimit := I1.nolimit.push o
  have cont : ∀ (code : Value) (h3 : Heap) (tk : Nat) (ps' : Array Value), Heap.ExtBut P (s1.heap.push o) h3 → (s1.heap.push o).objs.size ≤ h3.objs.size → h3.get? P = some { cls := .none, data := .fields ps' } → (∃ more, ps' = ps ++ more) → TriplesOk ps'.toList →
      wpAny (model X.prog X.w) X.A (builtinsFor X.env.globals X.env.builtins) (fun bi s₄ =>
        ∃ Ia fp wr n₀ Pf St₀ pz F, Value.ref s1.heap.objs.size = .ref Ia ∧ (∀ A' : Around, A'.handled = none → Walks X.prog X.w A' Ia fp wr n₀ Pf St₀) ∧ St₀ 0 s₄.heap ∧ (∀ b ∈ fp, b < s₄.heap.objs.size) ∧ s₄.heap.NoLimit ∧ cStatics ∉ wr ∧
          (∀ href : Heap, (∀ b o, s₄.heap.get? b = some o → href.get? b = some o) →
            QuietGenD X.prog X.w (genEnv scope (cloFrom X.env.cells scope.names []) s₄.heap.objs.size code bi X.env) x [] elt (List.range s₄.heap.objs.size) wr Pf pz F href (X.A.depth + 1) (X.A.units + 8)) ∧
          (∀ a h₅ tk gs, gs.bare = true → s₄.heap.objs.size < a → h₅.objs.size = a + 1 → (∀ b o, s₄.heap.get? b = some o → h₅.get? b = some o) →
            WalksS X.prog X.w X.A.in4 a (a :: s₄.heap.objs.size :: List.range s₄.heap.objs.size) (s₄.heap.objs.size :: wr) (GenOnlyQ s₄.gens.size) (passing pz n₀ 0).length
              (fun j y => ∃ i, (passing pz n₀ 0)[j]? = some i ∧ F i y) (GenAt X.prog X.w X.A.in4 a s₄.gens.size s₄.heap.objs.size (List.range s₄.heap.objs.size) wr pz n₀ F) →
            GenAt X.prog X.w X.A.in4 a s₄.gens.size s₄.heap.objs.size (List.range s₄.heap.objs.size) wr pz n₀ F 0 { s₄ with gens := s₄.gens.push gs, toks := tk, heap := h₅ } →
            Q' (.ref a) { s₄ with gens := s₄.gens.push gs, toks := tk, heap := h₅ })) X.xe { s1 with heap := h3, toks := tk } := by
    intro code h3 tk ps' hx hsz hP3 hmore ht3
    obtain ⟨bm, ob, e1, e2, e3, e4, e5, e6, e7, e8⟩ := TB.bm
    have hcP : cStatics ≠ P := fun e => by
      obtain ⟨_, hns, _⟩ := I1.nolimit
      obtain ⟨o', es, ep, ho, hd, _⟩ := hns
      rw [e, hPs] at ho
      cases ho
      cases hd
    have hcl : cStatics < s1.heap.objs.size := let ⟨_, hns, _⟩ := I1.nolimit; hns.lt
    have sz2 : (s1.heap.push o).objs.size = s1.heap.objs.size + 1 := Heap.size_push ..
    have hs1 : s1.heap.objs.size < h3.objs.size := by rw [sz2] at hsz; exact hsz
    have keep3 : ∀ b u, b ≠ P → s1.heap.get? b = some u → h3.get? b = some u := fun b u hb e => hx b u hb (Heap.get?_push_of_some _ e)
    refine wpAny_builtinsFor (m := X.mg) (by rw [I1.ok.glob]; exact ((I1.mod.glob.keeps I1.bk).push o).extBut hx TB.gP) e1 e2 (keep3 _ _ e4 (I1.bk _ _ e5)) e6 e7 e8 ?_
    refine ⟨s1.heap.objs.size, fp, [s1.heap.objs.size], bs.length, Fs, St, (fun _ => true), (fun i y => i < bs.length ∧ y = .bool (trB bs i)), rfl, W, ?_, ?_, lim2.extBut hx hcP, ?_, ?_, ?_⟩
    · refine (W X.A hr.hd).frame _ _ _ hst fun b hb u e => hx b u (fun z => ?_) e
      rcases hfp b hb with z2 | z2
      · exact Nat.ne_of_lt hPlt (z.symm.trans z2)
      · exact z2.2 z
    · intro b hb
      show b < h3.objs.size
      rcases hfp b hb with z | z
      · rw [z]
        exact hs1
      · exact Nat.lt_trans z.1 hs1
    · intro z
      rcases List.mem_cons.mp z with z | z
      · exact Nat.ne_of_lt hcl z
      · cases z
    · intro href hhref
      refine ⟨fun A' E' i v s₂ m₂ hA hD hU hPv hn hm hk => ?_, fun A' E' i v s₂ m₂ hA hD hU hPv hp hn hm hk => ?_⟩
      · simp only [List.forIn_nil]
        exact wpAny_pure ⟨rfl, keeps_refl _⟩
      · have hi' : i < bs.length := hbd _ _ hPv
        have kp : ∀ b o, b ≠ P → s1.heap.get? b = some o → s₂.heap.get? b = some o := fun b o2 hb e => by
          have hl := Heap.lt_size e
          refine hk b (List.mem_range.mpr (Nat.lt_trans hl hs1)) (fun z => ?_) o2 (hhref b o2 (keep3 b o2 hb e))
          rcases List.mem_cons.mp z with z | z
          · exact Nat.ne_of_lt hl z
          · cases z
        exact wpAny_mono (hel _ A' E' i v s₂ m₂ ⟨rfl, rfl, rfl, hA, hD, hU, kp⟩ hPv hn hm) (fun y s3 r => ⟨⟨hi', r.1⟩, r.2⟩) fun _ _ e => e
    · intro g h5 tk5 gs hgb hag hsz5 hk5 W5 hat
      simp only [GxR.passing_true, List.length_range] at W5
      refine hQ bs H1 g _ q1 ⟨_, _, _, _, _, W5.in4_1, hat, ?_, fun s' hm => ?_⟩
      · intro j y sj Qj Ej hy hQj
        obtain ⟨i, hij, hi2, rfl⟩ := hy
        obtain ⟨hj, ej⟩ := List.getElem?_eq_some_iff.mp hij
        rw [List.getElem_range] at ej
        subst ej
        exact wpAny_truthy_bool hQj
      · obtain ⟨more, em⟩ := hmore
        have nwr : ∀ b u, s1.heap.get? b = some u → b ∉ h3.objs.size :: [s1.heap.objs.size] := fun b u e hb => by
          have hl := Heap.lt_size e
          rcases List.mem_cons.mp hb with z | z
          · rw [z] at hl
            exact Nat.lt_irrefl _ (Nat.lt_trans hl hs1)
          · rcases List.mem_cons.mp z with z | z
            · rw [z] at hl
              exact Nat.lt_irrefl _ hl
            · cases z
        have J := inv_tab (more := more) (h' := s'.heap) (g' := s'.gens) (d' := s'.drawn) (t' := s'.toks) I1 hP (fun b u hb e => hm.heap b u (nwr b u e) (hk5 b u (keep3 b u hb e)))
          (by rw [← em]; exact hm.heap P _ (nwr P _ hPs) (hk5 P _ hP3)) (AllBare.movedS (I1.bare.push hgb) hm)
        rw [sh_eta s1 s' hm.os] at J
        refine ⟨upd H1 P (.tbl (ps ++ more)), ⟨⟨ps ++ more, upd_same, by rw [← em]; exact ht3⟩, fun b hb => upd_ne hb⟩, J⟩
  refine ⟨lim2, ?_⟩
  cases hf : codeAmong gpos ps.toList with
  | none =>
    refine wpAny_genexprCodeX hcode (cd.code hP2 ht) (cd.tab hP2) hf fun c' h' tk hx hge hlt hco' _ htab' _ => ?_
    obtain ⟨o1, vs, f1, tf, fl, tg, inF, tx, tt, op, _, _, _, _, _, _, _, _, _, htr, _⟩ := hco'
    exact cont _ h' tk _ hx (Nat.le_trans hge (Nat.le_of_lt hlt)) htab'.2 ⟨_, rfl⟩ htr
  | some cv =>
    refine wpAny_genexprCode_hit hcode (cd.code hP2 ht) hf ?_
    exact cont cv (s1.heap.push o) s1.toks ps (Heap.ExtBut.refl _ _) (Nat.le_refl _) hP2 ⟨#[], by simp⟩ ht

theorem boot_all : bootBuiltins "all" = some (.builtin "all") := by decide +kernel
/-- all(test for x in e) -/
def tAllG (P : Addr) (C : L2.St → Hp → V → List Bool → Prop) (te : TE) : TE := fun σ H Q => te σ H fun v H1 => TabG H1 P ∧ ∃ bs : List Bool, C σ H1 v bs ∧ ∀ H2, Tabbed P H1 H2 → Q (.bl (bs.all id)) H2
theorem all_trB (bs : List Bool) : (List.range bs.length).all (trB bs) = bs.all id := by
  rw [Bool.eq_iff_iff, List.all_eq_true, List.all_eq_true]
  constructor
  · intro h b hb
    obtain ⟨j, hj, e⟩ := List.getElem_of_mem hb
    have q := h j (List.mem_range.mpr hj)
    unfold trB at q
    rw [List.getD_eq_getElem?_getD, List.getElem?_eq_getElem hj] at q
    rw [← e]
    exact q
  · intro h j hj
    have hj' := List.mem_range.mp hj
    unfold trB
    rw [List.getD_eq_getElem?_getD, List.getElem?_eq_getElem hj']
    exact h _ (List.getElem_mem hj')
/-- what a test of the element, C, must give: the source's turns, each turn's answer -/
def EltOk (X : Cx) (P : Addr) (scope : Scope) (x : Str) (elt : Expr) (C : L2.St → Hp → V → List Bool → Prop) : Prop :=
  ∀ (pins : List (Addr × Obj)) (σ : L2.St) (H1 : Hp) (v : V) (bs : List Bool) (u : Value) (s1 : Shared), C σ H1 v bs → TabG H1 P → Inv X pins σ H1 s1 → RelV v u → ∃ F, Src X P s1 u bs.length F ∧ (∀ i v', F i v' → i < bs.length) ∧
    ∀ (cenv : Env) (A' : Around) (E' : Value → Shared → Prop) (i : Nat) (v' : Value) (s₂ : Shared) m₂, GIn X P scope s1 cenv A' s₂ → F i v' → s₂.heap.Ns cenv.locals m₂ → m₂ x = some v' →
      wpAny (model X.prog X.w) A' (eval elt cenv) (fun y s₃ => y = .bool (trB bs i) ∧ Keeps s₂ s₃) E' s₂
theorem pe_allG {c P : Addr} {elt iter : Expr} {x : Str} {px p pos gpos : Pos} {scope : Scope} {te : TE} {k : Nat} {C : L2.St → Hp → V → List Bool → Prop}
    (hr : Room k X.A) (hg : Gl X "all") (hm : X.mg "all" = none) (TB : TabB X.base X.mg c P) (hcode : X.env.code = .ref c) (S : GenK X.env.scope scope x) (hi : PE X iter te) (hel : EltOk X P scope x elt C)
    (hs : ∀ v, genFold iter X.env v = pure v)
    (he : starEach [.GeneratorExp elt [⟨.Name x px, iter, [], 0⟩] scope gpos] X.env = (false, eval (.GeneratorExp elt [⟨.Name x px, iter, [], 0⟩] scope gpos) X.env) :: starEach [] X.env := by rfl) :
    PE X (.Call (.Name "all" p) [.GeneratorExp elt [⟨.Name x px, iter, [], 0⟩] scope gpos] [] pos) (tAllG P C te) := by
  refine ⟨fun pins s σ H Q I h => ?_⟩
  refine wpAny_Call_Name_kw (ld_blt I hg hm boot_all ?_)
  refine PyProof.Rows.callWith_builtin1 ?_ he (by rfl)
  rw [he]
  show wpAny _ _ (spliced ((false, eval (.GeneratorExp elt [⟨.Name x px, iter, [], 0⟩] scope gpos) X.env) :: backTo pos (starEach [] X.env))) _ _ s
  have hi' : PE X iter (fun σ H Q => ∃ Q1 : VK, te σ H Q1 ∧ ∀ v H', Q1 v H' → Q v H') := ⟨fun pins s σ H Q I ⟨Q1, h, m⟩ =>
    wpAny_mono (hi.run pins s σ H Q1 I h) (fun u s' ⟨v, H', I', r, z⟩ => ⟨v, H', I', r, m v H' z⟩) fun _ _ z => z⟩
  refine Calls.spliced_cons (gen_at (R := fun bs H1 => ∀ H2, Tabbed P H1 H2 → Q (.bl (bs.all id)) H2) hr TB hcode S hi' hs I ⟨_, h, fun v H1 ⟨t, bs, hC, hq⟩ => ⟨t, bs, hq, fun u s1 I1 r1 => hel pins σ H1 v bs u s1 hC t I1 r1⟩⟩ fun bs H1 g s5 hR hG => ?_)
  obtain ⟨fp, wr, G, F, St, W, hst, htr, hI⟩ := hG
  refine Calls.spliced_nil ?_
  refine call_all_walkS (W.self 0 _ _ _ hst ⟨g, fp, wr, G, _, F, St, _, rfl, W, hst, htr, fun s' hmv => ?_⟩)
  obtain ⟨H2, hT, J⟩ := hI s' hmv
  refine ⟨.bl _, H2, J, rfl, ?_⟩
  rw [all_trB bs]
  exact hR H2 hT
end
end FF
set_option Elab.async false
set_option linter.all false
set_option maxRecDepth 100000
set_option maxHeartbeats 4000000
/-! all(test for a, b in zip(e, f)) -/
namespace FF
open PySem PySem.Spec PyProof.Rows L2
open GxR (TabB TabG Tabbed GenS keeps_refl keeps_tok inv_tab sh_eta)
/-- the scope of a generator expression of two names -/
structure GenK2 (sc scope : Scope) (xa xb : Str) : Prop where
  one : GenK sc scope xa
  lb : scope.names.lookup xb = some .local
  ne : xa ≠ xb
section
variable {X : Cx} {pins : List (Addr × Obj)} {σ : L2.St} {H : Hp} {s : Shared}
theorem gen_atT {c P : Addr} {elt iter : Expr} {xa xb : Str} {pa pb pt gpos : Pos} {kt : Nat} {scope : Scope} {k : Nat} {Q' : Value → Shared → Prop} {R : List Bool → Hp → Prop}
    (hr : Room k X.A) (TB : TabB X.base X.mg c P) (hcode : X.env.code = .ref c) (S : GenK2 X.env.scope scope xa xb) (I0 : X.Ok)
    (hs : ∀ v, genFold iter X.env v = pure v)
    (hev : wpAny (model X.prog X.w) X.A (eval iter X.env) (fun xv s2 => ∃ (H1 : Hp) (bs : List Bool) (s1 : Shared) (z : Addr) (fp wr : List Addr) (Pt : Nat → Array Value → Prop) (St : Nat → Heap → Prop) (Mid : Nat → Addr → Heap → Prop),
      xv = .ref z ∧ Inv X pins σ H1 s1 ∧ TabG H1 P ∧ R bs H1 ∧ s2 = { s1 with heap := s2.heap, toks := s2.toks } ∧ (∀ b o, s1.heap.get? b = some o → s2.heap.get? b = some o) ∧ s1.heap.objs.size ≤ s2.heap.objs.size ∧ (∀ b ∈ wr, s1.heap.objs.size ≤ b) ∧ (∀ b ∈ fp, b < s2.heap.objs.size ∧ b ≠ P) ∧
      (∀ (Q : Value → Shared → Prop) E, Q (.ref z) s2 → wpAny (model X.prog X.w) X.A (pyIter (.ref z)) Q E s2) ∧ (∀ A' : Around, A'.handled = none → WalksU X.prog X.w A' z fp wr bs.length Pt St Mid) ∧ St 0 s2.heap ∧ (∀ i vals, Pt i vals → i < bs.length ∧ ∃ va vb, vals = #[va, vb]) ∧
      ∀ (cenv : Env) (A' : Around) (E' : Value → Shared → Prop) (i : Nat) (va vb : Value) (s₂ : Shared) m₂, GIn X P scope s1 cenv A' s₂ → Pt i #[va, vb] → s₂.heap.Ns cenv.locals m₂ → m₂ xa = some va → m₂ xb = some vb →
        wpAny (model X.prog X.w) A' (eval elt cenv) (fun y s₃ => y = .bool (trB bs i) ∧ Keeps s₂ s₃) E' s₂) X.xe s)
    (hQ : ∀ bs H1 g s5, R bs H1 → ReadyB X pins σ H1 P bs g s5 → Q' (.ref g) s5) :
    wpAny (model X.prog X.w) X.A (eval (.GeneratorExp elt [⟨.Tuple [.Name xa pa, .Name xb pb] kt pt, iter, [], 0⟩] scope gpos) X.env) Q' X.xe s := by
  refine wpAny_GeneratorExp_walksQTD hr.hd S.one.co (closure_ok (S.one.has I0)) S.one.cell S.one.dot S.one.loc S.lb S.ne S.one.kind (by have := hr.dp; omega) ?_ hs
  refine wpAny_mono hev (fun xv s2 hh => ?_) fun _ _ e => e
  obtain ⟨H1, bs, s1, z, fp, wr, Pt, St, Mid, rfl, I1, ⟨ps, hP, ht⟩, q1, es, kp12, hsz12, hwr, hfp, hit, W, hst, hPt, hel⟩ := hh
  have gb : s2.gens = s1.gens := by
    have q := congrArg Shared.gens es
    exact q
  have osb : s2.os = s1.os := by
    have q := congrArg Shared.os es
    exact q
  refine hit _ _ ?_
  have hPs0 : s1.heap.get? P = some { cls := .none, data := .fields ps } := I1.hok P _ hP
  have hPs : s2.heap.get? P = some { cls := .none, data := .fields ps } := kp12 _ _ hPs0
  have hPlt : P < s2.heap.objs.size := Heap.lt_size hPs
  have cd : PySem.W.CodeHd s2.heap c P := TB.code.keeps fun b u e => kp12 _ _ (I1.bk b u e)
  have lim2 : s2.heap.NoLimit := I1.nolimit.keeps kp12
  have hcl : cStatics < s1.heap.objs.size := let ⟨_, hns, _⟩ := I1.nolimit; hns.lt
  have cont : ∀ (code : Value) (h3 : Heap) (tk : Nat) (ps' : Array Value), Heap.ExtBut P s2.heap h3 → s2.heap.objs.size ≤ h3.objs.size → h3.get? P = some { cls := .none, data := .fields ps' } → (∃ more, ps' = ps ++ more) → TriplesOk ps'.toList →
      wpAny (model X.prog X.w) X.A (builtinsFor X.env.globals X.env.builtins) (fun bi s₄ =>
        ∃ Ia fp wr n₀ Pt St₀ Mid pz F, Value.ref z = .ref Ia ∧ (∀ A' : Around, A'.handled = none → WalksU X.prog X.w A' Ia fp wr n₀ Pt St₀ Mid) ∧ (∀ i vals, Pt i vals → ∃ va vb, vals = #[va, vb]) ∧ St₀ 0 s₄.heap ∧ (∀ b ∈ fp, b < s₄.heap.objs.size) ∧ s₄.heap.NoLimit ∧ cStatics ∉ wr ∧
          (∀ href : Heap, (∀ b o, s₄.heap.get? b = some o → href.get? b = some o) →
            QuietGenTD X.prog X.w (genEnv scope (cloFrom X.env.cells scope.names []) s₄.heap.objs.size code bi X.env) xa xb [] elt (List.range s₄.heap.objs.size) wr Pt pz F href (X.A.depth + 1) (X.A.units + 8)) ∧
          (∀ a h₅ tk gs, gs.bare = true → s₄.heap.objs.size < a → h₅.objs.size = a + 1 → (∀ b o, s₄.heap.get? b = some o → h₅.get? b = some o) →
            WalksS X.prog X.w X.A.in4 a (a :: s₄.heap.objs.size :: List.range s₄.heap.objs.size) (s₄.heap.objs.size :: wr) (GenOnlyQ s₄.gens.size) (passing pz n₀ 0).length
              (fun j y => ∃ i, (passing pz n₀ 0)[j]? = some i ∧ F i y) (GenAt X.prog X.w X.A.in4 a s₄.gens.size s₄.heap.objs.size (List.range s₄.heap.objs.size) wr pz n₀ F) →
            GenAt X.prog X.w X.A.in4 a s₄.gens.size s₄.heap.objs.size (List.range s₄.heap.objs.size) wr pz n₀ F 0 { s₄ with gens := s₄.gens.push gs, toks := tk, heap := h₅ } →
            Q' (.ref a) { s₄ with gens := s₄.gens.push gs, toks := tk, heap := h₅ })) X.xe { s2 with heap := h3, toks := tk } := by
    intro code h3 tk ps' hx hsz hP3 hmore ht3
    obtain ⟨bm, ob, e1, e2, e3, e4, e5, e6, e7, e8⟩ := TB.bm
    have hcP : cStatics ≠ P := fun e => by
      obtain ⟨_, hns, _⟩ := I1.nolimit
      obtain ⟨o', es, ep, ho, hd, _⟩ := hns
      rw [e, hPs0] at ho
      cases ho
      cases hd
    have hs13 : s1.heap.objs.size ≤ h3.objs.size := Nat.le_trans hsz12 hsz
    have keep3 : ∀ b u, b ≠ P → s1.heap.get? b = some u → h3.get? b = some u := fun b u hb e => hx b u hb (kp12 _ _ e)
    refine wpAny_builtinsFor (m := X.mg) (by rw [I1.ok.glob]; exact ((I1.mod.glob.keeps I1.bk).keeps kp12).extBut hx TB.gP) e1 e2 (keep3 _ _ e4 (I1.bk _ _ e5)) e6 e7 e8 ?_
    refine ⟨z, fp, wr, bs.length, Pt, St, Mid, (fun _ => true), (fun i y => i < bs.length ∧ y = .bool (trB bs i)), rfl, W, fun i vals hp => (hPt i vals hp).2, ?_, fun b hb => Nat.lt_of_lt_of_le (hfp b hb).1 hsz, lim2.extBut hx hcP, fun z => Nat.lt_irrefl _ (Nat.lt_of_lt_of_le hcl (hwr _ z)), ?_, ?_⟩
    · exact (W X.A hr.hd).frame _ _ _ hst fun b hb u e => hx b u (hfp b hb).2 e
    · intro href hhref
      refine ⟨fun A' E' i va vb s₂ m₂ hA hD hU hPv hn hma hmb hk => ?_, fun A' E' i va vb s₂ m₂ hA hD hU hPv hp hn hma hmb hk => ?_⟩
      · simp only [List.forIn_nil]
        exact wpAny_pure ⟨rfl, keeps_refl _⟩
      · have kp : ∀ b o, b ≠ P → s1.heap.get? b = some o → s₂.heap.get? b = some o := fun b o2 hb e => by
          have hl := Heap.lt_size e
          exact hk b (List.mem_range.mpr (Nat.lt_of_lt_of_le hl hs13)) (fun z => Nat.lt_irrefl _ (Nat.lt_of_lt_of_le hl (hwr _ z))) o2 (hhref b o2 (keep3 b o2 hb e))
        exact wpAny_mono (hel _ A' E' i va vb s₂ m₂ ⟨rfl, rfl, rfl, hA, hD, hU, kp⟩ hPv hn hma hmb) (fun y s3 r => ⟨⟨(hPt _ _ hPv).1, r.1⟩, r.2⟩) fun _ _ e => e
    · intro g h5 tk5 gs hgb hag hsz5 hk5 W5 hat
      simp only [GxR.passing_true, List.length_range] at W5
      refine hQ bs H1 g _ q1 ⟨_, _, _, _, _, W5.in4_1, hat, ?_, fun s' hm => ?_⟩
      · intro j y sj Qj Ej hy hQj
        obtain ⟨i, hij, hi2, rfl⟩ := hy
        obtain ⟨hj, ej⟩ := List.getElem?_eq_some_iff.mp hij
        rw [List.getElem_range] at ej
        subst ej
        exact wpAny_truthy_bool hQj
      · obtain ⟨more, em⟩ := hmore
        have nwr : ∀ b u, s1.heap.get? b = some u → b ∉ h3.objs.size :: wr := fun b u e hb => by
          have hl := Heap.lt_size e
          rcases List.mem_cons.mp hb with z | z
          · rw [z] at hl
            exact Nat.lt_irrefl _ (Nat.lt_of_lt_of_le hl hs13)
          · exact Nat.lt_irrefl _ (Nat.lt_of_lt_of_le hl (hwr _ z))
        have J := inv_tab (more := more) (h' := s'.heap) (g' := s'.gens) (d' := s'.drawn) (t' := s'.toks) I1 hP (fun b u hb e => hm.heap b u (nwr b u e) (hk5 b u (keep3 b u hb e)))
          (by rw [← em]; exact hm.heap P _ (nwr P _ hPs0) (hk5 P _ hP3)) (AllBare.movedS (show AllBare (s2.gens.push gs) from by rw [gb]; exact I1.bare.push hgb) hm)
        rw [sh_eta s1 s' (hm.os.trans osb)] at J
        exact ⟨upd H1 P (.tbl (ps ++ more)), ⟨⟨ps ++ more, upd_same, by rw [← em]; exact ht3⟩, fun b hb => upd_ne hb⟩, J⟩
  refine ⟨lim2, ?_⟩
  cases hf : codeAmong gpos ps.toList with
  | none =>
    refine wpAny_genexprCodeX hcode (cd.code hPs ht) (cd.tab hPs) hf fun c' h' tk hx hge hlt hco' _ htab' _ => ?_
    obtain ⟨o1, vs, f1, tf, fl, tg, inF, tx, tt, op, _, _, _, _, _, _, _, _, _, htr, _⟩ := hco'
    exact cont _ h' tk _ hx (Nat.le_trans hge (Nat.le_of_lt hlt)) htab'.2 ⟨_, rfl⟩ htr
  | some cv =>
    refine wpAny_genexprCode_hit hcode (cd.code hPs ht) hf ?_
    exact cont cv s2.heap s2.toks ps (Heap.ExtBut.refl _ _) (Nat.le_refl _) hPs ⟨#[], by simp⟩ ht
end
end FF
set_option Elab.async false
set_option linter.all false
set_option maxRecDepth 100000
set_option maxHeartbeats 4000000
/-! a def that is quiet: lo <= x <= G; called within a generator expression -/
namespace FF
open PySem PySem.Spec PyProof.Rows L2
open GxR (TabB TabG Tabbed GenS keeps_refl keeps_tok)
theorem keeps_trans {s s' s'' : Shared} (a : Keeps s s') (b : Keeps s' s'') : Keeps s s'' := by
  obtain ⟨h, t, rfl, k⟩ := a
  obtain ⟨h', t', rfl, k'⟩ := b
  exact ⟨h', t', rfl, fun b o e => k' b o (k b o e)⟩
/-- a def of one whole number that answers with True or False and changes nothing -/
def QuietB (P : Program) (w : World) (K : PySem.W.Frag) (mg : Str → Option Value) (f : Addr) (F : Int → Bool) : Prop :=
  ∀ (A : Around) (s : Shared) (n : Int) (t : Tok), A.handled = none → A.depth < recursionLimit → K.In s.heap → s.heap.Ns mainGlobals mg → s.heap.NoLimit →
    codeAny (model P w) A (.call (.ref f) ⟨[.int n t], []⟩) (fun r s' => r = .ok (.ret (.bool (F n))) ∧ Keeps s s') s
section
variable {P : Program} {w : World} {K : PySem.W.Frag} {mg : Str → Option Value}
theorem quiet_between {x q g : Str} {st : Stmt} {f : Addr} {fd : FuncData} {hi : Int} {tg : Tok} {p1 p2 p3 p4 p5 : Pos} {j : Nat} (F : Fun K q q st f fd) (S : FnScope [x] [x] (defScope st))
    (hb : ∀ (kV doc pm : Value) (an : Option Addr) (cdv ct : Value) (us : List Value), us.length = 1 → bindArgs (PySem.W.fnOf q q (defArgs st) (defBody st) (defScope st) .none kV doc pm an cdv ct) ⟨us, []⟩ = pure ([x].zip us))
    (hbody : defBody st = [.Return (some (.Compare (.Constant (.int 0) j p1) [.LtE, .LtE] [.Name x p2, .Name g p3] p4)) p5])
    (hx : (defScope st).names.lookup x = some .local) (hg : (defScope st).names.lookup g = some .globalImplicit) (hm : mg g = some (.int hi tg)) (hdx : (x == ("__debug__" : Str)) = false := by decide) (hdg : (g == ("__debug__" : Str)) = false := by decide) :
    QuietB P w K mg f (fun n => decide (0 ≤ n) && decide (n ≤ hi)) := by
  obtain ⟨oc, od, kV, doc, pm, an, cdv, ct, osl, rfl, lk, hcd⟩ := F.ex
  intro A s n t hh hdep KX hns lim
  refine codeAny_call_function hdep (KX _ _ lk) rfl S.co S.gen rfl (PySem.W.codeRec_of KX hcd) ?_
  rw [hb kV doc pm an cdv ct [.int n t] rfl]
  refine wpAny_pure ?_
  refine wpAny_newFunctionEnv_cells S.kind (fun z hz => ?_) fun env he s1 X => ?_
  · have e : z = (x, .int n t) := by simpa using hz
    rw [e]
    exact .inl hx
  subst he
  refine ⟨lim.keeps X.toInCall.keep, codeAny_func ?_⟩
  show wpAny _ _ (execs (defBody st) _) _ _ _
  rw [hbody]
  have kx : (newEnv (defScope st) s.heap.objs.size mainGlobals (cellsFrom (s.heap.objs.size + 1) (defScope st).names []) (q ++ ".<locals>.") (some f) cdv none builtinsNs).kindOf x = some .local := hx
  have fin : ∀ (s2 : Shared), Keeps s1 s2 → Keeps s s2 := fun s2 k => by
    obtain ⟨h', tk, rfl, kk⟩ := X.done
    exact keeps_trans ⟨h', tk, rfl, kk⟩ k
  have gs : ∀ (s2 : Shared), Keeps s1 s2 → s2.heap.Ns mainGlobals mg := fun s2 k => by
    obtain ⟨h', tk, rfl, kk⟩ := X.done
    obtain ⟨h2, t2, rfl, k2⟩ := k
    exact (hns.keeps kk).keeps k2
  refine wpAny_execs_cons (wpAny_Return_some (Compare_chain (wpAny_Constant_int (chain_link (wpAny_Name (wpAny_loadName_local S.kind kx X.toInCall.ns (v := .int n t) ?_ ?_) hdx)))))
  · show bindL _ [(x, Value.int n t)] _ x = _
    unfold bindL
    rw [if_pos kx]
    show bindL _ [] _ x = _
    unfold bindL
    exact if_pos rfl
  · refine le_int (wpAny_truthy_bool ?_)
    cases c : decide (0 ≤ n) with
    | false => exact ite_ff ⟨by show Except.ok (Flow.ret (Value.bool false)) = Except.ok (Flow.ret (Value.bool (decide (0 ≤ n) && decide (n ≤ hi)))); rw [c]; rfl, fin _ (keeps_tok _ _)⟩
    | true =>
      refine ite_tt (chain_last (Calls.Name_function_global S.kind hg (Calls.loadGlobal_global (gs _ (keeps_tok _ _)) hm ?_) hdg))
      refine le_int ?_
      exact ⟨by show Except.ok (Flow.ret (Value.bool (decide (n ≤ hi)))) = Except.ok (Flow.ret (Value.bool (decide (0 ≤ n) && decide (n ≤ hi)))); rw [c]; rfl, fin _ (keeps_tok _ _)⟩
end
end FF
set_option Elab.async false
set_option linter.all false
set_option maxRecDepth 100000
set_option maxHeartbeats 4000000
/-! the sources and the tests of generator expressions -/
namespace FF
open PySem PySem.Spec PyProof.Rows L2
open GxR (TabB TabG Tabbed GenS keeps_refl keeps_tok)
section
variable {X : Cx} {pins : List (Addr × Obj)} {σ : L2.St} {H : Hp} {s : Shared}
theorem src_list {P a : Addr} {xs : List V} (I : Inv X pins σ H s) (h : SqL X.K H a xs) (t : TabG H P) : ∃ its : List Value, Vals xs its ∧ Src X P s (.ref a) xs.length (fun i v => its[i]? = some v) := by
  obtain ⟨its, rv, pl, hz⟩ := I.list h
  obtain ⟨ps, hP, _⟩ := t
  have hPs : s.heap.get? P = some { cls := .none, data := .fields ps } := I.hok P _ hP
  refine ⟨its, rv, fun Q E k => ?_⟩
  refine wpAny_pyIter_list pl.isList ?_
  obtain ⟨o, e, hc, n, hd⟩ := id pl.isList
  have al := Heap.lt_size e
  refine k _ [s.heap.objs.size, a] (fun i h => h.IsListIter s.heap.objs.size a i ∧ h.IsList a its.toArray) (fun A' hA => ?_) ⟨⟨_, Heap.get?_push_size _ rfl, rfl, rfl⟩, pl.isList.push _⟩ (fun b hb => ?_)
  · have w := Walks.list (prog := X.prog) (w := X.w) hA s.heap.objs.size a (Nat.ne_of_lt al) its.toArray
    have e1 : its.toArray.size = xs.length := by rw [List.size_toArray, rv.length]
    rw [e1] at w
    simpa using w
  · rcases List.mem_cons.1 hb with q | q
    · exact .inl q
    · have q2 : b = a := by simpa using q
      refine .inr ⟨q2 ▸ al, fun z => ?_⟩
      rw [← z, q2, e] at hPs
      cases hPs
      cases hd
theorem src_tup {P a : Addr} {xs : List V} (I : Inv X pins σ H s) (h : SqT X.K H a xs) (t : TabG H P) : ∃ its : List Value, Vals xs its ∧ Src X P s (.ref a) xs.length (fun i v => its[i]? = some v) := by
  obtain ⟨its, rv, pl, hz⟩ := I.tuple h
  obtain ⟨ps, hP, _⟩ := t
  have hPs : s.heap.get? P = some { cls := .none, data := .fields ps } := I.hok P _ hP
  have pl' : s.heap.IsTuple a its.toArray := pl
  refine ⟨its, rv, fun Q E k => ?_⟩
  refine wpAny_pyIter_tuple pl' ?_
  obtain ⟨o, e, hc, n, hd⟩ := id pl'
  have al := Heap.lt_size e
  refine k _ [s.heap.objs.size, a] (fun i h => h.IsTupleIter s.heap.objs.size a i ∧ h.IsTuple a its.toArray) (fun A' hA => ?_) ⟨⟨_, Heap.get?_push_size _ rfl, rfl, rfl⟩, pl'.push _⟩ (fun b hb => ?_)
  · have w := Walks.tuple (prog := X.prog) (w := X.w) hA s.heap.objs.size a (Nat.ne_of_lt al) its.toArray
    have e1 : its.toArray.size = xs.length := by rw [List.size_toArray, rv.length]
    rw [e1] at w
    simpa using w
  · rcases List.mem_cons.1 hb with q | q
    · exact .inl q
    · have q2 : b = a := by simpa using q
      refine .inr ⟨q2 ▸ al, fun z => ?_⟩
      rw [← z, q2, e] at hPs
      cases hPs
      cases hd
theorem src_str {P : Addr} {a : Str} {t : Tok} (s : Shared) : Src X P s (.str a t) a.cps.toList.length (SignAt a) := by
  intro Q E k
  refine wpAny_pyIter_str fun o St W hst => ?_
  refine k o [s.heap.objs.size] St (fun A' hA => ?_) hst (fun b hb => .inl (by simpa using hb))
  have w := W A' hA
  rw [Array.length_toList]
  exact w
theorem GIn.bk {P : Addr} {scope : Scope} {cenv : Env} {A' : Around} {s₂ : Shared} (G : GIn X P scope s cenv A' s₂) (I : Inv X pins σ H s) (t : TabG H P) : ∀ b o, X.base.get? b = some o → s₂.heap.get? b = some o := fun b o e => by
  refine G.kp b o (fun z => ?_) (I.bk b o e)
  obtain ⟨ps, hP, _⟩ := t
  have q := (I.bs b o e).2
  rw [z, hP] at q
  cases q
theorem GIn.gl {P : Addr} {scope : Scope} {cenv : Env} {A' : Around} {s₂ : Shared} (G : GIn X P scope s cenv A' s₂) (I : Inv X pins σ H s) (t : TabG H P) : s₂.heap.Ns cenv.globals X.mg := by
  rw [G.glob, I.ok.glob]
  exact I.mod.glob.keeps (G.bk I t)
def cText (z : Str) : L2.St → Hp → V → List Bool → Prop := fun σ H v bs => ∃ a : Str, v = .str a ∧ bs = a.cps.toList.map fun c => decide (c ∈ z.cps.toList)
def cQuiet (K : PySem.W.Frag) (Fb : Int → Bool) : L2.St → Hp → V → List Bool → Prop := fun σ H v bs => ∃ (a : Addr) (ns : List Int), v = .ref a ∧ (SqL K H a (ns.map V.int) ∨ SqT K H a (ns.map V.int)) ∧ bs = ns.map Fb
def cIn (K : PySem.W.Frag) (j : Nat) : L2.St → Hp → V → List Bool → Prop := fun σ H v bs => ∃ (a t : Addr) (ns ms : List Int), v = .ref a ∧ (SqL K H a (ns.map V.int) ∨ SqT K H a (ns.map V.int)) ∧ σ[j]? = some (some (.ref t)) ∧ (SqL K H t (ms.map V.int) ∨ SqT K H t (ms.map V.int)) ∧ bs = ns.map fun n => decide (n ∈ ms)
/-- x in NAME, NAME a text at the top -/
theorem elt_inText {P : Addr} {scope : Scope} {x g : Str} {z : Str} {tg : Tok} {p1 p2 p3 : Pos} (S : GenK X.env.scope scope x) (hg : scope.names.lookup g = some .globalImplicit) (hm : X.mg g = some (.str z tg)) (hdx : (x == ("__debug__" : Str)) = false := by decide) (hdg : (g == ("__debug__" : Str)) = false := by decide) :
    EltOk X P scope x (.Compare (.Name x p1) [.In] [.Name g p2] p3) (cText z) := by
  rintro pins σ H1 v bs u s1 ⟨a, rfl, rfl⟩ ht I1 r
  obtain ⟨t, rfl⟩ := _root_.id r
  have src := src_str (X := X) (P := P) (a := a) (t := t) s1
  refine ⟨_, by rw [List.length_map]; exact src, fun i v' hv => ?_, fun cenv A' E' i v' s₂ m₂ G hv hn hmx => ?_⟩
  · obtain ⟨c, u, e, _⟩ := hv
    rw [List.length_map, Array.length_toList]
    exact (Array.getElem?_eq_some_iff.1 e).1
  · obtain ⟨c, u, e, rfl⟩ := hv
    have kx : cenv.kindOf x = some .local := by show cenv.scope.names.lookup x = _; rw [G.sc]; exact S.loc
    have hk : cenv.scope.kind = .function := by rw [G.sc]; exact S.kind
    refine wpAny_Compare1 ?_
    refine wpAny_Name (wpAny_loadName_local hk kx hn hmx ?_) hdx
    refine Calls.Name_function_global hk (by show cenv.scope.names.lookup g = _; rw [G.sc]; exact hg) (Calls.loadGlobal_global (mg := X.mg) (G.gl I1 ht) hm ?_) hdg
    refine PyProof.Rows.in_str ⟨?_, keeps_refl _⟩
    rw [PySem.StrLaws.found_one z c]
    have e2 : a.cps.toList[i]? = some c := by rw [Array.getElem?_toList]; exact e
    unfold trB
    rw [List.getD_eq_getElem?_getD, List.getElem?_map, e2]
    rfl
/-- f(x), f a quiet def -/
theorem elt_quiet {P : Addr} {scope : Scope} {x g : Str} {f : Addr} {Fb : Int → Bool} {k : Nat} {p1 p2 p3 : Pos} (hr : Room (k + 1) X.A) (S : GenK X.env.scope scope x) (hg : scope.names.lookup g = some .globalImplicit) (hm : X.mg g = some (.ref f)) (hkp : PySem.W.keepIn X.K (.ref f) = true) (qf : QuietB X.prog X.w X.K X.mg f Fb) (hdx : (x == ("__debug__" : Str)) = false := by decide) (hdg : (g == ("__debug__" : Str)) = false := by decide) :
    EltOk X P scope x (.Call (.Name g p1) [.Name x p2] [] p3) (cQuiet X.K Fb) := by
  rintro pins σ H1 v bs u s1 ⟨a, ns, rfl, hq, rfl⟩ ht I1 r
  cases r
  have src : ∃ its : List Value, Vals (ns.map V.int) its ∧ Src X P s1 (.ref a) (ns.map V.int).length (fun i v => its[i]? = some v) := hq.elim (fun q => src_list I1 q ht) (fun q => src_tup I1 q ht)
  obtain ⟨its, rv, src⟩ := src
  have hl : its.length = ns.length := by rw [← rv.length, List.length_map]
  refine ⟨_, by rw [List.length_map]; rw [List.length_map] at src; exact src, fun i v' hv => ?_, fun cenv A' E' i v' s₂ m₂ G hv hn hmx => ?_⟩
  · rw [List.length_map, ← hl]
    exact (List.getElem?_eq_some_iff.1 hv).1
  · have hi : i < ns.length := by rw [← hl]; exact (List.getElem?_eq_some_iff.1 hv).1
    obtain ⟨w, hw, rw'⟩ := rv.get (i := i) (x := .int ns[i]) (by rw [List.getElem?_map, List.getElem?_eq_getElem hi]; rfl)
    rw [hv] at hw
    cases hw
    obtain ⟨t, rfl⟩ := rw'
    have kx : cenv.kindOf x = some .local := by show cenv.scope.names.lookup x = _; rw [G.sc]; exact S.loc
    have hk : cenv.scope.kind = .function := by rw [G.sc]; exact S.kind
    have kin : X.K.In s₂.heap := I1.ok.mod.kin.keeps (G.bk I1 ht)
    refine wpAny_Call_Name_kw (Calls.Name_function_global hk (by show cenv.scope.names.lookup g = _; rw [G.sc]; exact hg) (Calls.loadGlobal_global (mg := X.mg) (G.gl I1 ht) hm ?_) hdg)
    refine PySem.W.callWith_K (h₀ := X.base) I1.ok.mod.kin hkp ?_ (by rfl) (by rfl)
    show wpAny _ _ (spliced ((false, eval (.Name x p2) cenv) :: backTo p3 (starEach [] cenv))) _ _ s₂
    refine Calls.spliced_cons (wpAny_Name (wpAny_loadName_local hk kx hn hmx ?_) hdx)
    refine Calls.spliced_nil ⟨kin, ?_⟩
    refine wpAny_call (codeAny_mono (qf A' s₂ ns[i] t G.hd (Nat.lt_of_le_of_lt G.dp ?_) kin (by have := G.gl I1 ht; rw [G.glob, I1.ok.glob] at this; exact this) (I1.mod.nolimit.keeps (G.bk I1 ht))) fun r s' hq => ?_)
    · have := hr.dp
      omega
    · obtain ⟨rfl, kk⟩ := hq
      refine ⟨?_, kk⟩
      unfold trB
      rw [List.getD_eq_getElem?_getD, List.getElem?_map, List.getElem?_eq_getElem hi]
      rfl
/-- x in y, y a captured name of a tuple or a list of whole numbers -/
theorem elt_inSeq {P : Addr} {scope : Scope} {x y : Str} {j : Nat} {p1 p2 p3 : Pos} (S : GenK X.env.scope scope x) (hN : X.N[j]? = some y) (hy : X.env.scope.names.lookup y = some .cell ∨ X.env.scope.names.lookup y = some .free) (hf : scope.names.lookup y = some .free) (hdx : (x == ("__debug__" : Str)) = false := by decide) (hdy : (y == ("__debug__" : Str)) = false := by decide) (hcy : (y == ("__classdict__" : Str)) = false := by decide) :
    EltOk X P scope x (.Compare (.Name x p1) [.In] [.Name y p2] p3) (cIn X.K j) := by
  rintro pins σ H1 v bs u s1 ⟨a, t, ns, ms, rfl, hq, hj, hq2, rfl⟩ ht I1 r
  cases r
  have src : ∃ its : List Value, Vals (ns.map V.int) its ∧ Src X P s1 (.ref a) (ns.map V.int).length (fun i v => its[i]? = some v) := hq.elim (fun q => src_list I1 q ht) (fun q => src_tup I1 q ht)
  obtain ⟨its, rv, src⟩ := src
  have hl : its.length = ns.length := by rw [← rv.length, List.length_map]
  refine ⟨_, by rw [List.length_map]; rw [List.length_map] at src; exact src, fun i v' hv => ?_, fun cenv A' E' i v' s₂ m₂ G hv hn hmx => ?_⟩
  · rw [List.length_map, ← hl]
    exact (List.getElem?_eq_some_iff.1 hv).1
  · have hi : i < ns.length := by rw [← hl]; exact (List.getElem?_eq_some_iff.1 hv).1
    obtain ⟨w, hw, rw'⟩ := rv.get (i := i) (x := .int ns[i]) (by rw [List.getElem?_map, List.getElem?_eq_getElem hi]; rfl)
    rw [hv] at hw
    cases hw
    have kx : cenv.kindOf x = some .local := by show cenv.scope.names.lookup x = _; rw [G.sc]; exact S.loc
    have ky : cenv.kindOf y = some .free := by show cenv.scope.names.lookup y = _; rw [G.sc]; exact hf
    have hk : cenv.scope.kind = .function := by rw [G.sc]; exact S.kind
    obtain ⟨ps, hP, _⟩ := ht
    have hPs : s1.heap.get? P = some { cls := .none, data := .fields ps } := I1.hok P _ hP
    have kpd : ∀ b o, (∀ q, o.data ≠ .fields q) → s1.heap.get? b = some o → s₂.heap.get? b = some o := fun b o nf e => G.kp b o (fun z => by rw [z, hPs] at e; cases e; exact nf _ rfl) e
    obtain ⟨m, hns, hlk⟩ := I1.loc
    obtain ⟨u2, ru, lk⟩ := hlk j y (.ref t) hN hj (.inr hy)
    cases ru
    obtain ⟨c, hc, hcell⟩ : ∃ c, X.env.cells.lookup y = some c ∧ s1.heap.IsCell c (some (.ref t)) := by
      rcases lk with ⟨k1, _⟩ | ⟨_, q⟩
      · exfalso
        have k1' : X.env.scope.names.lookup y = some .local := k1
        rcases hy with z | z <;> rw [z] at k1' <;> cases k1'
      · exact q
    have hc2 : cenv.cells.lookup y = some c := by
      rw [G.cells]
      exact NdefX.clo_has (S.has I1.ok) (PySem.mem_of_lookup hf) hc
    have hcell2 : s₂.heap.IsCell c (some (.ref t)) := by
      obtain ⟨o, e, d⟩ := hcell
      exact ⟨o, kpd _ _ (fun q z => by rw [d] at z; cases z) e, d⟩
    refine wpAny_Compare1 ?_
    refine wpAny_Name (wpAny_loadName_local hk kx hn hmx ?_) hdx
    refine wpAny_Name (wpAny_loadName_free hk ky hc2 hcell2 ?_ hcy) hdy
    have fin : ∀ (jts : List Value) (r2 : Vals (ms.map V.int) jts), Value.bool (jts.toArray.any (eqU (.int ns[i]))) = .bool (trB (ns.map fun n => decide (n ∈ ms)) i) := fun jts r2 => by
      rw [show jts.toArray.any (eqU (.int ns[i])) = jts.any (eqU (.int ns[i])) by simp, any_eqU r2 (flat_ints ms)]
      unfold trB
      rw [List.getD_eq_getElem?_getD, List.getElem?_map, List.getElem?_eq_getElem hi]
      exact congrArg Value.bool (inV_ints ns[i] ms)
    rcases hq2 with hq2 | hq2
    · obtain ⟨jts, r2, pl, hz⟩ := I1.list hq2
      have pl2 : s₂.heap.IsList t jts.toArray := by
        obtain ⟨o, e, hc, n, hd⟩ := pl.isList
        exact ⟨o, kpd _ _ (fun q z => by rw [hd] at z; cases z) e, hc, n, hd⟩
      exact SeqAt.in_listAt (eqU (.int ns[i])) pl2 (fun w' hw' => mem_eqAt rw' rfl r2 (flat_ints ms) w' (by simpa using hw')) ⟨fin jts r2, keeps_refl _⟩
    · obtain ⟨jts, r2, pl, hz⟩ := I1.tuple hq2
      have pl0 : s1.heap.IsTuple t jts.toArray := pl
      have pl2 : s₂.heap.IsTuple t jts.toArray := by
        obtain ⟨o, e, hc, n, hd⟩ := pl0
        exact ⟨o, kpd _ _ (fun q z => by rw [hd] at z; cases z) e, hc, n, hd⟩
      exact SeqAt.in_tupleAt (eqU (.int ns[i])) pl2 (fun w' hw' => mem_eqAt rw' rfl r2 (flat_ints ms) w' (by simpa using hw')) ⟨fin jts r2, keeps_refl _⟩
end
end FF
set_option Elab.async false
set_option linter.all false
set_option maxRecDepth 100000
set_option maxHeartbeats 4000000
/-! all(a < b for a, b in zip(e, f)), e and f tuples of whole numbers -/
namespace FF
open PySem PySem.Spec PyProof.Rows L2
open GxR (TabB TabG Tabbed GenS keeps_refl keeps_tok)
theorem sep_new {n a b : Addr} (h1 : a < n) (h2 : b < n) : ZipSep2 (n + 4) (n + 2) (n + 3) n (n + 1) [n, a] [n + 1, b] where
  TIz := Nat.ne_of_lt (Nat.add_lt_add_left (by decide) n)
  TOz := Nat.ne_of_lt (Nat.add_lt_add_left (by decide) n)
  TITO := Nat.ne_of_lt (Nat.add_lt_add_left (by decide) n)
  TIi1 := Nat.ne_of_gt (Nat.lt_add_of_pos_right (by decide))
  mem1 := by simp
  zf1 := fun z => by
    rcases List.mem_cons.1 z with z | z
    · exact Nat.ne_of_gt (Nat.lt_add_of_pos_right (by decide : 0 < 4)) z
    · exact Nat.ne_of_gt (Nat.lt_of_lt_of_le h1 (Nat.le_add_right n 4)) (by simpa using z)
  Tf1 := fun z => by
    rcases List.mem_cons.1 z with z | z
    · exact Nat.ne_of_gt (Nat.lt_add_of_pos_right (by decide : 0 < 3)) z
    · exact Nat.ne_of_gt (Nat.lt_of_lt_of_le h1 (Nat.le_add_right n 3)) (by simpa using z)
  TIi2 := Nat.ne_of_gt (Nat.add_lt_add_left (by decide) n)
  mem2 := by simp
  zf2 := fun z => by
    rcases List.mem_cons.1 z with z | z
    · exact Nat.ne_of_gt (Nat.add_lt_add_left (by decide : 1 < 4) n) z
    · exact Nat.ne_of_gt (Nat.lt_of_lt_of_le h2 (Nat.le_add_right n 4)) (by simpa using z)
  Tf2 := fun z => by
    rcases List.mem_cons.1 z with z | z
    · exact Nat.ne_of_gt (Nat.add_lt_add_left (by decide : 1 < 3) n) z
    · exact Nat.ne_of_gt (Nat.lt_of_lt_of_le h2 (Nat.le_add_right n 3)) (by simpa using z)
  sep1_2 := fun z => by
    rcases List.mem_cons.1 z with z | z
    · exact Nat.ne_of_lt (Nat.lt_add_of_pos_right (by decide : 0 < 1)) z
    · exact Nat.ne_of_gt h2 (by simpa using z)
  sep2_1 := fun z => by
    rcases List.mem_cons.1 z with z | z
    · exact Nat.ne_of_gt (Nat.lt_add_of_pos_right (by decide : 0 < 1)) z
    · exact Nat.ne_of_gt (Nat.lt_of_lt_of_le h1 (Nat.le_add_right n 1)) (by simpa using z)
def tAllLt (K : PySem.W.Frag) (P : Addr) (ta : TA) : TE := fun σ H Q => ta σ H fun vs H1 => ∃ (a b : Addr) (ns ms : List Int), vs = [V.ref a, V.ref b] ∧ SqT K H1 a (ns.map V.int) ∧ SqT K H1 b (ms.map V.int) ∧ TabG H1 P ∧
  ∀ H2, Tabbed P H1 H2 → Q (.bl ((ns.zip ms).all fun p => decide (p.1 < p.2))) H2
section
variable {X : Cx}
theorem pe_allLt {c P : Addr} {e e2 : Expr} {xa xb : Str} {pa pb pt p pz pz2 pos gpos q1 q2 q3 : Pos} {kt : Nat} {scope : Scope} {ta : TA} {k : Nat}
    (hr : Room k X.A) (hg : Gl X "all") (hm : X.mg "all" = none) (hg2 : Gl X "zip") (hm2 : X.mg "zip" = none) (TB : TabB X.base X.mg c P) (hcode : X.env.code = .ref c) (S : GenK2 X.env.scope scope xa xb) (ha : PA X [e, e2] ta)
    (hda : (xa == ("__debug__" : Str)) = false := by decide) (hdb : (xb == ("__debug__" : Str)) = false := by decide)
    (hs : ∀ v, genFold (.Call (.Name "zip" pz) [e, e2] [] pz2) X.env v = pure v)
    (hs1 : starEach [e, e2] X.env = (false, eval e X.env) :: starEach [e2] X.env := by rfl) (hpl : (backTo pz2 (starEach [e2] X.env)).any (·.1) = false := by rfl)
    (he : starEach [.GeneratorExp (.Compare (.Name xa q1) [.Lt] [.Name xb q2] q3) [⟨.Tuple [.Name xa pa, .Name xb pb] kt pt, .Call (.Name "zip" pz) [e, e2] [] pz2, [], 0⟩] scope gpos] X.env = (false, eval (.GeneratorExp (.Compare (.Name xa q1) [.Lt] [.Name xb q2] q3) [⟨.Tuple [.Name xa pa, .Name xb pb] kt pt, .Call (.Name "zip" pz) [e, e2] [] pz2, [], 0⟩] scope gpos) X.env) :: starEach [] X.env := by rfl) :
    PE X (.Call (.Name "all" p) [.GeneratorExp (.Compare (.Name xa q1) [.Lt] [.Name xb q2] q3) [⟨.Tuple [.Name xa pa, .Name xb pb] kt pt, .Call (.Name "zip" pz) [e, e2] [] pz2, [], 0⟩] scope gpos] [] pos) (tAllLt X.K P ta) := by
  refine ⟨fun pins s σ H Q I h => ?_⟩
  refine wpAny_Call_Name_kw (ld_blt I hg hm boot_all ?_)
  refine PyProof.Rows.callWith_builtin1 ?_ he (by rfl)
  rw [he]
  show wpAny _ _ (spliced ((false, eval (.GeneratorExp (.Compare (.Name xa q1) [.Lt] [.Name xb q2] q3) [⟨.Tuple [.Name xa pa, .Name xb pb] kt pt, .Call (.Name "zip" pz) [e, e2] [] pz2, [], 0⟩] scope gpos) X.env) :: backTo pos (starEach [] X.env))) _ _ s
  refine Calls.spliced_cons (gen_atT (pins := pins) (σ := σ) (R := fun bs H1 => ∀ H2, Tabbed P H1 H2 → Q (.bl (bs.all id)) H2) hr TB hcode S I.ok hs ?_ fun bs H1 g s5 hR hG => ?_)
  · refine Call_ (ld_blt I hg2 hm2 PyProof.Rows.boot_zip (PyProof.Rows.callWith_type1 (thn (ha.run pz2 pins s σ H _ I h) fun us s1 ⟨vs, H1, I1, r1, q1⟩ => ?_) hs1 hpl))
    obtain ⟨a, b, ns, ms, ex, hqx, hqy, ht, hQ⟩ := q1
    subst ex
    cases r1 with
    | cons r rr =>
      cases rr with
      | cons r' rr =>
        cases rr
        cases r
        cases r'
        obtain ⟨its, rv, p1, _⟩ := I1.tuple hqx
        obtain ⟨its2, rv2, p2, _⟩ := I1.tuple hqy
        have p1' : s1.heap.IsTuple a its.toArray := p1
        have p2' : s1.heap.IsTuple b its2.toArray := p2
        obtain ⟨o1, ho1, hc1, n1, hd1⟩ := id p1'
        obtain ⟨o2, ho2, hc2, n2, hd2⟩ := id p2'
        have la := Heap.lt_size ho1
        have lb := Heap.lt_size ho2
        obtain ⟨ps, hP, htr⟩ := id ht
        have hPs : s1.heap.get? P = some { cls := .none, data := .fields ps } := I1.hok P _ hP
        have hPlt : P < s1.heap.objs.size := Heap.lt_size hPs
        have aP : a ≠ P := fun z => by rw [z, hPs] at ho1; cases ho1; cases hd1
        have bP : b ≠ P := fun z => by rw [z, hPs] at ho2; cases ho2; cases hd2
        have l1 : its.length = ns.length := by rw [← rv.length, List.length_map]
        have l2 : its2.length = ms.length := by rw [← rv2.length, List.length_map]
        have lz : ((ns.zip ms).map fun p => decide (p.1 < p.2)).length = min its.toArray.size its2.toArray.size := by
          rw [List.length_map, List.length_zip, List.size_toArray, List.size_toArray, l1, l2]
        refine RZ.call_zipT p1' p2' fun h' hz hTI hTO h1 h2 hsz hk => ?_
        have sep := sep_new la lb
        have D1 : ∀ A' : Around, A'.handled = none → Draws X.prog X.w A'.in1 s1.heap.objs.size [s1.heap.objs.size, a] its.toArray.size (fun i v => its.toArray[i]? = some v) (fun i h => h.IsTupleIter s1.heap.objs.size a i ∧ h.IsTuple a its.toArray) := fun A' hA => Draws.tuple (A := A'.in1) hA _ _ (Nat.ne_of_lt la) _
        have D2 : ∀ A' : Around, A'.handled = none → Draws X.prog X.w A'.in1 (s1.heap.objs.size + 1) [s1.heap.objs.size + 1, b] its2.toArray.size (fun i v => its2.toArray[i]? = some v) (fun i h => h.IsTupleIter (s1.heap.objs.size + 1) b i ∧ h.IsTuple b its2.toArray) := fun A' hA => Draws.tuple (A := A'.in1) hA _ _ (Nat.ne_of_lt (Nat.lt_succ_of_lt lb)) _
        have WW := fun (A' : Around) (hA : A'.handled = none) => (WalksT.zipD2 sep (D1 A' hA) (D2 A' hA)).toU
        refine ⟨H1, (ns.zip ms).map fun p => decide (p.1 < p.2), s1, s1.heap.objs.size + 4, (s1.heap.objs.size + 4) :: (s1.heap.objs.size + 2) :: (s1.heap.objs.size + 3) :: ([s1.heap.objs.size, a] ++ [s1.heap.objs.size + 1, b]), [s1.heap.objs.size + 4, s1.heap.objs.size + 3, s1.heap.objs.size, s1.heap.objs.size + 1],
          (fun i vals => ∃ x1 x2, its.toArray[i]? = some x1 ∧ its2.toArray[i]? = some x2 ∧ vals = #[x1, x2]),
          (fun i h => IsZip h (s1.heap.objs.size + 4) (s1.heap.objs.size + 2) (s1.heap.objs.size + 3) .none ∧ IsTupOf2 h (s1.heap.objs.size + 2) (.ref s1.heap.objs.size) (.ref (s1.heap.objs.size + 1)) ∧ (∃ a1 a2, IsTupOf2 h (s1.heap.objs.size + 3) a1 a2) ∧ (h.IsTupleIter s1.heap.objs.size a i ∧ h.IsTuple a its.toArray) ∧ (h.IsTupleIter (s1.heap.objs.size + 1) b i ∧ h.IsTuple b its2.toArray)),
          _, rfl, I1, ht, ?_, rfl, hk, by rw [hsz]; exact Nat.le_add_right _ _, fun b' hb => ?_, fun b' hb => ?_, fun Q' E' q' => wpAny_pyIter_zip hz q', fun A' hA => by rw [lz]; exact WW A' hA, ⟨hz, hTI, ⟨_, _, hTO⟩, ⟨h1, p1'.at fun o e => hk _ o e⟩, ⟨h2, p2'.at fun o e => hk _ o e⟩⟩, fun i vals hp => ?_, fun cenv A' E' i va vb s₂ m₂ G hp hn hma hmb => ?_⟩
        · intro H2 hT
          have e : ((ns.zip ms).map fun p => decide (p.1 < p.2)).all id = (ns.zip ms).all fun p => decide (p.1 < p.2) := by rw [List.all_map]; rfl
          rw [e]
          exact hQ H2 hT
        · have e' : b' = s1.heap.objs.size + 4 ∨ b' = s1.heap.objs.size + 3 ∨ b' = s1.heap.objs.size ∨ b' = s1.heap.objs.size + 1 := by simpa using hb
          rcases e' with q | q | q | q <;> rw [q]
          · exact Nat.le_add_right _ _
          · exact Nat.le_add_right _ _
          · exact Nat.le_refl _
          · exact Nat.le_add_right _ _
        · have e' : b' = s1.heap.objs.size + 4 ∨ b' = s1.heap.objs.size + 2 ∨ b' = s1.heap.objs.size + 3 ∨ b' = s1.heap.objs.size ∨ b' = a ∨ b' = s1.heap.objs.size + 1 ∨ b' = b := by simpa using hb
          have up : ∀ i, i < 5 → s1.heap.objs.size + i < h'.objs.size ∧ s1.heap.objs.size + i ≠ P := fun i hi => ⟨by rw [hsz]; exact Nat.add_lt_add_left hi _, fun z => Nat.ne_of_gt (Nat.lt_of_lt_of_le hPlt (Nat.le_add_right _ i)) z⟩
          rcases e' with q | q | q | q | q | q | q <;> rw [q]
          · exact up 4 (by decide)
          · exact up 2 (by decide)
          · exact up 3 (by decide)
          · exact up 0 (by decide)
          · exact ⟨by rw [hsz]; exact Nat.lt_of_lt_of_le la (Nat.le_add_right _ _), aP⟩
          · exact up 1 (by decide)
          · exact ⟨by rw [hsz]; exact Nat.lt_of_lt_of_le lb (Nat.le_add_right _ _), bP⟩
        · obtain ⟨x1, x2, e1, e2', rfl⟩ := hp
          have a1 := (Array.getElem?_eq_some_iff.1 e1).1
          have a2 := (Array.getElem?_eq_some_iff.1 e2').1
          exact ⟨by rw [lz]; exact Nat.lt_min.2 ⟨a1, a2⟩, _, _, rfl⟩
        · obtain ⟨x1, x2, e1, e2', ee⟩ := hp
          have ee' : va = x1 ∧ vb = x2 := by simpa using ee
          rw [← ee'.1] at e1
          rw [← ee'.2] at e2'
          have a1 : i < ns.length := by rw [← l1]; simpa using (Array.getElem?_eq_some_iff.1 e1).1
          have a2 : i < ms.length := by rw [← l2]; simpa using (Array.getElem?_eq_some_iff.1 e2').1
          obtain ⟨w1, hw1, r1⟩ := rv.get (i := i) (x := .int ns[i]) (by rw [List.getElem?_map, List.getElem?_eq_getElem a1]; rfl)
          obtain ⟨w2, hw2, r2⟩ := rv2.get (i := i) (x := .int ms[i]) (by rw [List.getElem?_map, List.getElem?_eq_getElem a2]; rfl)
          have f1 : w1 = va := by rw [List.getElem?_toArray, hw1] at e1; exact Option.some.inj e1
          have f2 : w2 = vb := by rw [List.getElem?_toArray, hw2] at e2'; exact Option.some.inj e2'
          rw [f1] at r1
          rw [f2] at r2
          obtain ⟨t1, rfl⟩ := r1
          obtain ⟨t2, rfl⟩ := r2
          have kxa : cenv.kindOf xa = some .local := by show cenv.scope.names.lookup xa = _; rw [G.sc]; exact S.one.loc
          have kxb : cenv.kindOf xb = some .local := by show cenv.scope.names.lookup xb = _; rw [G.sc]; exact S.lb
          have hk : cenv.scope.kind = .function := by rw [G.sc]; exact S.one.kind
          refine wpAny_Compare1 ?_
          refine wpAny_Name (wpAny_loadName_local hk kxa hn hma ?_) hda
          refine wpAny_Name (wpAny_loadName_local hk kxb hn hmb ?_) hdb
          refine lt_int ⟨?_, keeps_refl _⟩
          unfold trB
          rw [List.getD_eq_getElem?_getD, List.getElem?_map, List.getElem?_eq_getElem (by rw [List.length_zip]; exact Nat.lt_min.2 ⟨a1, a2⟩), List.getElem_zip]
          rfl
  · obtain ⟨fp, wr, G, F, St, W, hst, htr, hI⟩ := hG
    refine Calls.spliced_nil ?_
    refine call_all_walkS (W.self 0 _ _ _ hst ⟨g, fp, wr, G, _, F, St, _, rfl, W, hst, htr, fun s' hmv => ?_⟩)
    obtain ⟨H2, hT, J⟩ := hI s' hmv
    refine ⟨.bl _, H2, J, rfl, ?_⟩
    rw [all_trB bs]
    exact hR H2 hT
end
end FF
set_option Elab.async false
set_option linter.all false
set_option maxRecDepth 100000
set_option maxHeartbeats 4000000
/-! regions with the tables of code objects -/
namespace FF
open PySem PySem.Spec PyProof.Rows L2
open GxR (TabB TabG Tabbed)
open Evl (Ex fresh_back)
/-- the region holds the table P -/
structure HasT (R : Rg) (P : Addr) : Prop where
  w : R.W P
  tab : ∀ H, R.I H → TabG H P
  mvT : ∀ H H', Tabbed P H H' → R.I H → R.I H'
theorem Le.tabbed {R : Rg} {P : Addr} {H H' : Hp} (h : HasT R P) (ok : R.I H) (t : Tabbed P H H') : Le R H H' where
  ext := fun a o nw e => by rw [t.2 a (fun z => nw (by rw [z]; exact h.w))]; exact e
  back := fun a e => by
    by_cases z : a = P
    · obtain ⟨⟨ps, hp, _⟩, _⟩ := t
      rw [z, hp] at e
      cases e
    · rw [← t.2 a z]; exact e
  ok0 := ok
  ok := h.mvT H H' t ok
/-- nothing but tables may change -/
def Rt (T : List Addr) : Rg where
  W := fun a => a ∈ T
  I := fun H => ∀ a ∈ T, TabG H a
  st := fun H H' e h a ha => by
    obtain ⟨ps, hp, ht⟩ := h a ha
    exact ⟨ps, e a _ hp, ht⟩
  wt := fun H a h w => by
    obtain ⟨ps, hp, _⟩ := h a w
    exact ⟨_, hp, fun ys z => by cases z⟩
  mv := fun H p xs ys h nw hl a ha => by
    obtain ⟨ps, hp, ht⟩ := h a ha
    exact ⟨ps, by rw [upd_ne (fun z => nw (by rw [← z]; exact ha))]; exact hp, ht⟩
theorem rt_has {T : List Addr} {P : Addr} (h : P ∈ T) : HasT (Rt T) P where
  w := h
  tab := fun H ok => ok P h
  mvT := fun H H' t ok a ha => by
    by_cases z : a = P
    · rw [z]; exact t.1
    · obtain ⟨ps, hp, ht⟩ := ok a ha
      exact ⟨ps, by rw [t.2 a z]; exact hp, ht⟩
/-- the row of draws, and tables -/
def Rl (K : PySem.W.Frag) (ar as : Addr) (sc : List Int) (T : List Addr) : Rg where
  W := fun a => a = ar ∨ a ∈ T
  I := fun H => RowI K ar as sc H ∧ ∀ a ∈ T, TabG H a
  st := fun H H' e h => ⟨(Rr K ar as sc).st H H' e h.1, (Rt T).st H H' e h.2⟩
  wt := fun H a h w => w.elim (fun z => (Rr K ar as sc).wt H a h.1 z) (fun z => (Rt T).wt H a h.2 z)
  mv := fun H p xs ys h nw hl => ⟨(Rr K ar as sc).mv H p xs ys h.1 (fun z => nw (.inl z)) hl, (Rt T).mv H p xs ys h.2 (fun z => nw (.inr z)) hl⟩
section
variable {K : PySem.W.Frag} {ar as : Addr} {sc : List Int} {T : List Addr} {H H' : Hp}
theorem row_tab (h : RowI K ar as sc H) (t : ∀ a ∈ T, TabG H a) : ar ∉ T := fun z => by
  obtain ⟨ps, hp, _⟩ := t ar z
  obtain ⟨⟨p, m, r, _, e⟩, _⟩ := h
  rw [hp] at e
  cases e
/-- from the draws to the law's region -/
theorem Le.rr (e : Le (Rr K ar as sc) H H') (t : ∀ a ∈ T, TabG H a) : Le (Rl K ar as sc T) H H' where
  ext := fun a o nw h => e.ext a o (fun z => nw (.inl z)) h
  back := e.back
  ok0 := ⟨e.ok0, t⟩
  ok := ⟨e.ok, fun a ha => by
    obtain ⟨ps, hp, ht⟩ := t a ha
    exact ⟨ps, e.ext a _ (fun z => row_tab e.ok0 t (by have z' : a = ar := z; rw [← z']; exact ha)) hp, ht⟩⟩
theorem Le.rt (e : Le (Rt T) H H') (o : RowI K ar as sc H) : Le (Rl K ar as sc T) H H' where
  ext := fun a o nw h => e.ext a o (fun z => nw (.inr z)) h
  back := e.back
  ok0 := ⟨o, e.ok0⟩
  ok := by
    refine ⟨?_, e.ok⟩
    have na : ar ∉ T := row_tab o e.ok0
    obtain ⟨⟨p, m, r, h0, h1⟩, h2⟩ := o
    refine ⟨⟨p, m, r, h0, e.ext ar _ na h1⟩, h2.imp (fun ⟨o', q⟩ => ⟨o', e.ext as _ (fun z => ?_) q⟩) id⟩
    obtain ⟨ps, hp, _⟩ := e.ok0 as z
    rw [hp] at q
    cases q
theorem Le.r0t (e : Le R0 H H') (t : (Rt T).I H) : Le (Rt T) H H' := Le.of_ex e.ex t
theorem Le.r0l (e : Le R0 H H') (t : (Rl K ar as sc T).I H) : Le (Rl K ar as sc T) H H' := Le.of_ex e.ex t
end
section
variable {K : PySem.W.Frag} {R : Rg} {σ : L2.St} {H : Hp} {N N' : Addr → Prop} {P : Addr}
theorem e_allG {te : TE} {d : PyData} {b : Bool} {C : L2.St → Hp → V → List Bool → Prop} (hT : HasT R P) (h : Ev R te σ H N d) (hC : ∀ H1 v, Le R H H1 → Dt N H1 d v → ∃ bs, C σ H1 v bs ∧ bs.all id = b) : Ev R (tAllG P C te) σ H N' (.bool b) := fun H1 e Q q =>
  h H1 e _ fun v H2 e2 r => by
    obtain ⟨bs, c, eb⟩ := hC H2 v (e.trans e2) r
    refine ⟨hT.tab _ e2.ok, bs, c, fun H3 t => ?_⟩
    rw [eb]
    exact q _ H3 (e2.trans (Le.tabbed hT e2.ok t)) (.bl b)
theorem e_allLt {ta : TA} {ns ms : List Int} (hT : HasT R P) (h : EvA R ta σ H N [.tuple (ns.map .int), .tuple (ms.map .int)]) : Ev R (tAllLt K P ta) σ H N' (.bool ((ns.zip ms).all fun p => decide (p.1 < p.2))) := fun H1 e Q q =>
  h H1 e _ fun vs H2 e2 r => by
    cases r with
    | cons r1 r => cases r with
      | cons r2 r =>
        cases r
        obtain ⟨a, xs, rfl, ha, ra⟩ := r1.tupy
        obtain ⟨b, ys, rfl, hb, rb⟩ := r2.tupy
        rw [ra.ints] at ha
        rw [rb.ints] at hb
        refine ⟨a, b, ns, ms, rfl, SqT.of ha, SqT.of hb, hT.tab _ e2.ok, fun H3 t => ?_⟩
        exact q _ H3 (e2.trans (Le.tabbed hT e2.ok t)) (.bl _)
end
/-- what a region may change holds no list of data -/
theorem Dt.notW {N : Addr → Prop} {W : Addr → Prop} {H : Hp} {d : PyData} {v : V} (h : Dt N H d v) (hW : ∀ a xs, W a → H a ≠ some (.lst xs)) : Dt W H d v := by
  have main : ∀ (d : PyData) (v : V), Dt N H d v → Dt W H d v := fun d v => by
    refine Dt.rec (motive_1 := fun d v _ => Dt W H d v) (motive_2 := fun ds vs _ => DtA W H ds vs) .non .bl .int .str ?_ ?_ .nil ?_
    · intro a xs ds n q _ r
      exact .lst (fun z => hW a xs z q) q r
    · intro a xs ds q _ r
      exact .tup q r
    · intro d ds v vs _ _ r t
      exact .cons r t
  exact main d v h
theorem Dt.rt {N : Addr → Prop} {T : List Addr} {H : Hp} {d : PyData} {v : V} (h : Dt N H d v) (ok : (Rt T).I H) : Dt (fun a => a ∈ T) H d v := h.notW fun a xs w e => by
  obtain ⟨ps, hp, _⟩ := ok a w
  rw [hp] at e
  cases e
theorem nk_rt {T : List Addr} {H : Hp} (ok : (Rt T).I H) : Nk (Rt T) (fun a => a ∈ T) H := ⟨fun a w => w, fun a w e => by
  obtain ⟨ps, hp, _⟩ := ok a w
  rw [hp] at e
  cases e⟩
end FF
set_option Elab.async false
set_option linter.all false
set_option maxRecDepth 100000
set_option maxHeartbeats 4000000
/-! the program where nothing is refused: texts of signs -/
namespace FF
open PySem PySem.Spec PyProof.Rows L2
def sp_refuseN : Sp := fun vs H Q _ => ∃ (v : V) (ns : List Int), vs = [v] ∧ Dt No H (.list (ns.map .int)) v ∧ ns.length ≤ 40000 ∧ badAt ns = none ∧ ∀ H', Le R0 H H' → Q .non H'
def sp_partedN : Sp := fun vs H Q _ => ∃ (v : V) (ns : List Int), vs = [v] ∧ Dt No H (.list (ns.map .int)) v ∧ ns.length ≤ 40000 ∧ badAt ns = none ∧
  ∀ u H', Le R0 H H' → Dt (Dom H) H' (.list ((partsI ns).map fun c => .tuple (c.map .int))) u → Q u H'
abbrev r_refuseN (K : PySem.W.Frag) : TS :=
    (tFor (iEnum K (tCons (tVar 0) tNil)) (gTup K 2 (gCons (gName 1) (gCons (gName 2) gNil))) (tIfS (tNot (tTru K (tCall (sp_is_sign K) [] E0 (tCons (tVar 2) tNil)))) tNever tNext))
theorem int_at {ns : List Int} {i : Nat} {x : PyData} (hi : (ns.map PyData.int)[i]? = some x) : ∃ n, ns[i]? = some n ∧ x = .int n := by
  rw [List.getElem?_map] at hi
  cases e : ns[i]? with
  | none => rw [e] at hi; cases hi
  | some n => rw [e] at hi; exact ⟨n, rfl, (Option.some.inj hi).symm⟩
theorem sign_of {ns : List Int} (h : badAt ns = none) {i : Nat} {n : Int} (e : ns[i]? = some n) : isSign n = true := by
  unfold badAt at h
  have := List.findIdx?_eq_none_iff.1 h n (List.mem_of_getElem? e)
  simpa using this
theorem rd_refuseN {K : PySem.W.Frag} (vs : List V) (H : Hp) (Q : VK) (E : XK) (h : sp_refuseN vs H Q E) : r_refuseN K { nx := fun _ H' => Q .non H', rt := Q } (start ["text", "place", "number"] vs) H := by
  obtain ⟨v, ns, rfl, hv, hl, hb, k1⟩ := h
  have nW : ∀ (N : Addr → Prop) (a : Addr), R0.W a → N a := fun _ _ z => z.elim
  show tSeq (r_refuseN K) tNext { nx := fun _ H' => Q .non H', rt := Q } [some v, none, none] H
  refine q_forEn (R := R0) (N := No) (i := 0) (j := 1) (j2 := 2) (σ := [some v, none, none]) rfl hv (nW _) (fun i σ' H' => (∃ a b, σ' = [some v, a, b]) ∧ Le R0 H H') ⟨⟨_, _, rfl⟩, Le.refl trivial⟩ (fun i σ' H' p => p.2) (fun i x u σ' H' H'' hi p l1 r => ?_) (fun σ' H' p => ?_)
  · obtain ⟨⟨a, b, rfl⟩, l0⟩ := p
    obtain ⟨n, hn, rfl⟩ := int_at hi
    cases r
    have hs := sign_of hb hn
    refine s_if (R := R0) (b := false) ((t_not (t_trub (N := No) (e_is_sign (n := n) rfl))).is (by rw [hs]; rfl)) trivial (fun c H2 e2 => absurd c (by decide)) (fun c H2 e2 => ?_)
    exact ⟨⟨_, _, rfl⟩, (l0.trans l1).trans e2⟩
  · exact k1 _ p.2
abbrev r_partedN (K : PySem.W.Frag) : TS :=
    (tSeq (tDrop (tCall sp_refuseN [] E0 (tCons (tVar 0) tNil)))
    (tSeq (tAsg (tLst tNil) (gName 1))
    (tSeq (tFor (iList K (tVar 0)) (gName 2) (tIfS (tOr (tTru K (tCall (sp_is_letter K) [] E0 (tCons (tVar 2) tNil))) (tNot (tTru K (tVar 1)))) (tDrop (tBM K "list" rAppend (tVar 1) (tCons (tLst (tCons (tVar 2) tNil)) tNil))) (tDrop (tBM K "list" rAppend (tOp (rIx K) (tVar 1) (tUn (rU fun i => .int (-i)) (tC (.int 1)))) (tCons (tVar 2) tNil)))))
    (tRet (tLc (iList K (tVar 1)) (gName 3) tYes (tCB (rTupU K) (tCons (tVar 3) tNil)) [3])))))
theorem rd_partedN {K : PySem.W.Frag} (vs : List V) (H : Hp) (Q : VK) (E : XK) (h : sp_partedN vs H Q E) : r_partedN K { nx := fun _ H' => Q .non H', rt := Q } (start ["text", "clusters", "sign", "cluster"] vs) H := by
  obtain ⟨v, ns, rfl, hv, hl, hb, k1⟩ := h
  have nW : ∀ (N : Addr → Prop) (a : Addr), R0.W a → N a := fun _ _ z => z.elim
  refine ⟨v, rfl, v, ns, rfl, hv, hl, hb, fun H1 e1 => ?_⟩
  refine ⟨by rw [sizeLine_eq]; simp, fun p hp => ?_⟩
  have e2 : Le R0 H (upd H1 p (.lst [])) := e1.trans (Le.new hp e1.ok)
  refine q_forLd (R := R0) (N := No) (i := 0) (j := 2) (σ := [some v, some (.ref p), none, none]) rfl hv (nW _) (fun i σ' H' => (∃ a, σ' = [some v, some (.ref p), a, none]) ∧ Le R0 H H' ∧ ∃ as, Cls H H' p as (partsI (ns.take i)) i) ⟨⟨_, rfl⟩, e2, [], upd_same, rfl, by simp, fun k a c e => (by simp at e), e1.back _ hp, fun a ha => (by simp at ha), Nat.le_refl _, fun c hc => (by simp [partsI] at hc)⟩ (fun i σ' H' p => p.2.1) (fun i x u σ' H' hi pv r => ?_) (fun σ' H' pv => ?_)
  · obtain ⟨⟨a, rfl⟩, l0, as, cl⟩ := pv
    obtain ⟨n, hn, rfl⟩ : ∃ n, ns[i]? = some n ∧ x = .int n := by
      rw [List.getElem?_map] at hi
      cases e : ns[i]? with
      | none => rw [e] at hi; cases hi
      | some n => rw [e] at hi; exact ⟨n, rfl, (Option.some.inj hi).symm⟩
    cases r
    have hi4 : i < 40000 := by
      by_cases q : i < ns.length
      · omega
      · rw [List.getElem?_eq_none (Nat.le_of_not_lt q)] at hn
        cases hn
    have step := parts_more hn
    have lb := cl.lb
    have t1 : EvT R0 (tOr (tTru K (tCall (sp_is_letter K) [] E0 (tCons (tVar 2) tNil))) (tNot (tTru K (tVar 1)))) [some v, some (.ref p), some (.int n), none] H' (decide (n < 800) || !(!((partsI (ns.take i)).map fun c => PyData.list (c.map .int)).isEmpty)) :=
      t_or (t_trub (N := No) (e_is_letter rfl)) fun _ => t_not (t_trul (N := Dom H) (e_var rfl cl.dt (nW _)))
    refine s_if (R := R0) t1 trivial (fun c H2 e3 => ?_) (fun c H2 e3 => ?_)
    · have c2 : n < 800 ∨ partsI (ns.take i) = [] := by
        rw [Bool.not_not, Bool.or_eq_true] at c
        rcases c with c | c
        · exact .inl (of_decide_eq_true c)
        · refine .inr ?_
          cases hq : partsI (ns.take i) with
          | nil => rfl
          | cons a r => rw [hq] at c; simp at c
      have cl2 := cl.keep e3
      refine ⟨_, rfl, .inl ⟨rfl, _, SqL.of cl2.at_⟩, _, rfl, by rw [sizeLine_eq]; simp, fun q hq => ⟨p, as.map V.ref, .ref q, rfl, rfl, ?_, ?_, ?_⟩⟩
      · rw [upd_ne (fun e => by rw [← e, cl2.at_] at hq; cases hq)]
        exact cl2.at_
      · rw [List.length_map, cl2.len, sizeLine_eq]
        omega
      · refine ⟨⟨_, rfl⟩, ?_, as ++ [q], ?_⟩
        · refine ⟨fun b o _ hb => ?_, fun b hb => ?_, trivial, trivial⟩
          · have h2 : H2 b = some o := e3.ext b o (fun z => z) (l0.ext b o (fun z => z) hb)
            rw [upd_ne (fun e => by rw [e, cl2.new0] at hb; cases hb), upd_ne (fun e => by rw [e, hq] at h2; cases h2)]
            exact h2
          · by_cases ep : b = p
            · rw [ep]; exact cl2.new0
            · rw [upd_ne ep] at hb
              by_cases eq : b = q
              · rw [eq]; exact (l0.trans e3).back _ hq
              · rw [upd_ne eq] at hb
                exact (l0.trans e3).back _ hb
        · rw [step]
          unfold partStep
          rw [if_pos c2]
          exact cl2.more (l0.trans e3) hq
    · have c2 : ¬ (n < 800 ∨ partsI (ns.take i) = []) := by
        rw [Bool.not_not, Bool.or_eq_false_iff] at c
        rintro (d | d)
        · rw [decide_eq_true d] at c
          exact absurd c.1 (by simp)
        · rw [d] at c
          exact absurd c.2 (by simp)
      have cl2 := cl.keep e3
      have hne : partsI (ns.take i) ≠ [] := fun e => c2 (.inr e)
      obtain ⟨cs, c0, hcs⟩ : ∃ cs c0, partsI (ns.take i) = cs ++ [c0] := ⟨_, _, (List.dropLast_concat_getLast hne).symm⟩
      rw [hcs] at cl2 step
      obtain ⟨az, z, rfl⟩ : ∃ az z, as = az ++ [z] := by
        have : as ≠ [] := fun e => by
          have q := cl2.len
          rw [e] at q
          simp at q
        exact ⟨_, _, (List.dropLast_concat_getLast this).symm⟩
      have laz : az.length = cs.length := by have := cl2.len; simpa using this
      have hz : H2 z = some (.lst (c0.map V.int)) := cl2.own az.length z c0 (by simp) (by rw [laz]; simp)
      have hat : atI ((az ++ [z]).map V.ref) (-1) = some (.ref z) := by
        rw [List.map_append]
        exact atI_last _ _
      refine ⟨_, rfl, _, rfl, .inl ⟨p, _, _, _, rfl, rfl, SqL.of cl2.at_, hat, .inl ⟨rfl, _, SqL.of hz⟩, _, rfl, z, _, _, rfl, rfl, hz, ?_, ?_⟩⟩
      · rw [List.length_map, sizeLine_eq]
        have := cl2.cb c0 (by simp)
        omega
      · refine ⟨⟨_, rfl⟩, ?_, az ++ [z], ?_⟩
        · have z0 : H z = none := cl2.new z (by simp)
          refine ⟨fun b o _ hb => ?_, fun b hb => ?_, trivial, trivial⟩
          · rw [upd_ne (fun e => by rw [e, z0] at hb; cases hb)]
            exact e3.ext b o (fun z => z) (l0.ext b o (fun z => z) hb)
          · by_cases ep : b = z
            · rw [ep]; exact z0
            · rw [upd_ne ep] at hb
              exact (l0.trans e3).back _ hb
        · rw [step]
          unfold partStep
          rw [if_neg (by rw [← hcs]; exact c2), List.dropLast_concat]
          have : (cs ++ [c0]).getLastD [] = c0 := by simp
          rw [this]
          exact cl2.last
  · obtain ⟨⟨a, rfl⟩, l0, as, cl⟩ := pv
    rw [List.length_map, List.take_length] at cl
    refine s_retP (R := R0) (N := Dom H) (φp := fun d => d = .list ((partsI ns).map fun c => .tuple (c.map .int))) ?_ trivial fun d u H2 e3 hd r => ?_
    · have lp : ((partsI ns).map fun c => PyData.list (c.map .int)).length = (partsI ns).length := List.length_map ..
      have nk : Nk R0 (Dom H) H' := ⟨nW _, fun b ⟨o, hb⟩ e => by rw [l0.back _ e] at hb; cases hb⟩
      refine (p_lcL (N0 := Dom H) (ds := (partsI ns).map fun c => PyData.list (c.map .int)) (fun i o => o = if true = true then some (PyData.tuple (((partsI ns).getD i []).map .int)) else none) (e_var rfl cl.dt (nW _)) (nW _) (by rw [lp]; have := cl.lb; omega) nk (fun _ => rfl) fun i x u D H2 hD e4 nk2 hi r => ?_).imp fun d o => ?_
      · have hx : x = PyData.list (((partsI ns).getD i []).map .int) := by
          rw [List.getElem?_map] at hi
          rw [List.getD_eq_getElem?_getD]
          cases e : (partsI ns)[i]? with
          | none => rw [e] at hi; cases hi
          | some c => rw [e] at hi; exact (Option.some.inj hi).symm
        subst hx
        exact f_det (b := true) t_yes fun _ => e_tuple (e_var rfl r (nW _)) (nW _)
      · have q := out_det (f := fun _ => true) (g := fun i => PyData.tuple (((partsI ns).getD i []).map .int)) o
        rw [q, List.filter_eq_self.2 (fun _ _ => rfl), lp]
        refine congrArg PyData.list (map_range fun i x hx => ?_)
        rw [List.getD_eq_getElem?_getD, hx]
        rfl
    · subst hd
      exact k1 u H2 (l0.trans e3) r
end FF
set_option Elab.async false
set_option linter.all false
set_option maxRecDepth 100000
set_option maxHeartbeats 4000000
/-! the program: names, signs that rise, faces -/
namespace FF
open PySem PySem.Spec PyProof.Rows L2
open GxR (TabB TabG Tabbed)
def nameB (s : Str) : Bool := (decide (1 ≤ (s.length : Int)) && decide ((s.length : Int) ≤ 8)) && s.cps.toList.all fun c => decide (c ∈ abc.cps.toList)
def riseB (ns : List Int) : Bool := (ns.zip (ns.drop 1)).all fun p => decide (p.1 < p.2)
def signsB (ns : List Int) : Bool := decide ((ns.length : Int) ≤ 100) && ((ns.map isSign).all id && riseB ns)
def faceB (s : Str) (r : Int) (ns : List Int) : Bool := nameB s && ((decide (0 ≤ r) && decide (r ≤ 9)) && signsB ns)
def sp_is_name (T : List Addr) : Sp := fun vs H Q _ => ∃ s : Str, vs = [.str s] ∧ s.length ≤ 100000 ∧ (Rt T).I H ∧ ∀ H', Le (Rt T) H H' → Q (.bl (nameB s)) H'
def sp_is_rising (T : List Addr) : Sp := fun vs H Q _ => ∃ (v : V) (ns : List Int), vs = [v] ∧ Dt No H (.tuple (ns.map .int)) v ∧ (Rt T).I H ∧ ∀ H', Le (Rt T) H H' → Q (.bl (riseB ns)) H'
def sp_are_signs (T : List Addr) : Sp := fun vs H Q _ => ∃ (v : V) (ns : List Int), vs = [v] ∧ Dt No H (.tuple (ns.map .int)) v ∧ (Rt T).I H ∧ ∀ H', Le (Rt T) H H' → Q (.bl (signsB ns)) H'
def sp_is_face (T : List Addr) : Sp := fun vs H Q _ => ∃ (s : Str) (r : Int) (v : V) (ns : List Int), vs = [.str s, .int r, v] ∧ s.length ≤ 100000 ∧ Dt No H (.tuple (ns.map .int)) v ∧ (Rt T).I H ∧ ∀ H', Le (Rt T) H H' → Q (.bl (faceB s r ns)) H'
abbrev rLe : R2 := rI0 fun i j => .bl (decide (i ≤ j))
abbrev r_is_name (K : PySem.W.Frag) (P : Addr) : TS :=
    (tRet (tAndV (tChain rLe rLe (tC (.int 1)) (tCB (rLenU K) (tCons (tVar 0) tNil)) (tC (.int 8))) (tAllG P (cText abc) (tVar 0))))
abbrev r_is_rising (K : PySem.W.Frag) (P : Addr) : TS :=
    (tRet (tAllLt K P (tCons (tVar 0) (tCons (tSl (rSlA K) (tVar 0) (tPart (tC (.int 1))) tNoPart) tNil))))
abbrev r_are_signs (K : PySem.W.Frag) (T : List Addr) (P : Addr) : TS :=
    (tRet (tAndV (tOp rLe (tCB (rLenU K) (tCons (tVar 0) tNil)) (tC (.int 100))) (tAndV (tAllG P (cQuiet K isSign) (tVar 0)) (tCall (sp_is_rising T) [] E0 (tCons (tVar 0) tNil)))))
abbrev r_is_face (T : List Addr) : TS :=
    (tRet (tAndV (tCall (sp_is_name T) [] E0 (tCons (tVar 0) tNil)) (tAndV (tChain rLe rLe (tC (.int 0)) (tVar 1) (tC (.int 9))) (tCall (sp_are_signs T) [] E0 (tCons (tVar 2) tNil)))))
section
variable {R : Rg} {K : PySem.W.Frag} {σ : L2.St} {H H' : Hp} {N N' : Addr → Prop} {ta tb tc te : TE}
theorem e_chainLe {a b c : Int} (ha : Ev R ta σ H N (.int a)) (hb : Ev R tb σ H N (.int b)) (hc : Ev R tc σ H N (.int c)) : Ev R (tChain rLe rLe ta tb tc) σ H N' (.bool (decide (a ≤ b) && decide (b ≤ c))) := fun H1 e Q q =>
  ha H1 e _ fun u H2 e2 ru => hb H2 (e.trans e2) _ fun v H3 e3 rv => by
    cases ru; cases rv
    refine ⟨a, b, rfl, rfl, _, rfl, ?_⟩
    cases h : decide (a ≤ b) with
    | true =>
      rw [if_pos rfl]
      refine hc H3 ((e.trans e2).trans e3) _ fun w H4 e4 rw' => ?_
      cases rw'
      exact ⟨b, c, rfl, rfl, q _ H4 ((e2.trans e3).trans e4) (by rw [h]; exact .bl _)⟩
    | false =>
      rw [if_neg Bool.false_ne_true]
      exact q _ H3 (e2.trans e3) (by rw [h]; exact .bl _)
theorem e_le {a b : Int} (ha : Ev R ta σ H N (.int a)) (hb : Ev R tb σ H N (.int b)) : Ev R (tOp rLe ta tb) σ H N' (.bool (decide (a ≤ b))) := fun H1 e Q q =>
  ha H1 e _ fun u H2 e2 ru => hb H2 (e.trans e2) _ fun v H3 e3 rv => by
    cases ru; cases rv
    exact ⟨a, b, rfl, rfl, q _ H3 (e2.trans e3) (.bl _)⟩
theorem cut_whole {xs : List PyData} {lo hi : Option Int} (h : HT.sIx xs.length 0 lo = 0 ∧ HT.sIx xs.length xs.length hi = xs.length) : cutD xs lo hi = xs := by
  unfold cutD
  rw [h.1, h.2]
  simp
theorem e_slt {tl th : TO} {ds : List PyData} {lo hi : Option Int} (h : Ev R te σ H N (.tuple ds)) (h1 : EvO R tl σ H lo) (h2 : EvO R th σ H hi) (hW : ∀ a, R.W a → N a) : Ev R (tSl (rSlA K) te tl th) σ H N (.tuple (cutD ds lo hi)) := fun H1 e Q q =>
  h H1 e _ fun v H2 e2 r => h1 H2 (e.trans e2) _ fun H3 e3 => h2 H3 ((e.trans e2).trans e3) _ fun H4 e4 => by
    have r4 := r.le (e3.trans e4) hW
    obtain ⟨a1, x1, rfl, hl, ra⟩ := r4.tupy
    have e5 := (e2.trans e3).trans e4
    refine ⟨_, _, rfl, SqT.of hl, fun hw => ?_, fun hw p hp => ?_⟩
    · rw [ra.length] at hw
      exact q _ H4 e5 (by rw [cut_whole hw]; exact r4)
    · obtain ⟨l3, d3⟩ := new_t hW e5.ok hp (ra.cut lo hi)
      exact q _ _ (e5.trans l3) d3
end
theorem all_map_id {α : Type} (l : List α) (f : α → Bool) : (l.map f).all id = l.all f := by rw [List.all_map]; rfl
section
variable {K : PySem.W.Frag} {T : List Addr} {P : Addr}
theorem rd_is_name (hP : P ∈ T) (vs : List V) (H : Hp) (Q : VK) (E : XK) (h : sp_is_name T vs H Q E) : r_is_name K P { nx := fun _ H' => Q .non H', rt := Q } (start ["name"] vs) H := by
  obtain ⟨s, rfl, hl, ok, k⟩ := h
  refine s_ret (R := Rt T) (N := No) (d := .bool (nameB s)) (e_andV (e_chainLe (N := No) e_int (e_lens (N := No) (e_vs rfl) hl) e_int) fun _ => ?_) ok fun v H2 e r => by cases r; exact k _ e
  refine e_allG (rt_has hP) (e_vs (N := No) rfl) fun H1 v e r => ?_
  cases r
  exact ⟨_, ⟨s, rfl, rfl⟩, all_map_id _ _⟩
theorem rd_is_rising (hP : P ∈ T) (vs : List V) (H : Hp) (Q : VK) (E : XK) (h : sp_is_rising T vs H Q E) : r_is_rising K P { nx := fun _ H' => Q .non H', rt := Q } (start ["numbers"] vs) H := by
  obtain ⟨v, ns, rfl, hv, ok, k⟩ := h
  have nW : ∀ a, (Rt T).W a → Dom H a := fun a w => (Nk.dom ok).sub a w
  have hv2 : Dt (Dom H) H (.tuple (ns.map .int)) v := by
    obtain ⟨a, xs, rfl, ha, ra⟩ := hv.tupy
    rw [ra.ints] at ha
    exact .tup ha (dta_ints ns)
  have hd : cutD (ns.map PyData.int) (some 1) none = (ns.drop 1).map .int := by rw [cutD_drop1, List.map_drop]
  refine s_ret (R := Rt T) (N := No) (d := .bool (riseB ns)) (e_allLt (N := Dom H) (rt_has hP) (a_cons (e_var rfl hv2 nW) (a_one ?_) nW)) ok fun v H2 e r => by cases r; exact k _ e
  exact (e_slt (e_var rfl hv2 nW) (o_some e_int) o_none nW).is (by rw [hd])
theorem rd_are_signs (hP : P ∈ T) (vs : List V) (H : Hp) (Q : VK) (E : XK) (h : sp_are_signs T vs H Q E) : r_are_signs K T P { nx := fun _ H' => Q .non H', rt := Q } (start ["signs"] vs) H := by
  obtain ⟨v, ns, rfl, hv, ok, k⟩ := h
  have nW : ∀ a, (Rt T).W a → Dom H a := fun a w => (Nk.dom ok).sub a w
  have hv2 : Dt (Dom H) H (.tuple (ns.map .int)) v := by
    obtain ⟨a, xs, rfl, ha, ra⟩ := hv.tupy
    rw [ra.ints] at ha
    exact .tup ha (dta_ints ns)
  have ev : Ev (Rt T) (tVar 0) [some v] H (Dom H) (.tuple (ns.map .int)) := e_var rfl hv2 nW
  refine s_ret (R := Rt T) (N := No) (d := .bool (signsB ns)) (e_andV ?_ fun _ => e_andV (e_allG (rt_has hP) ev fun H1 v e r => ?_) fun _ => e_call (a_one ev) fun H1 vs e r Q q => ?_) ok fun v H2 e r => by cases r; exact k _ e
  · have q := e_le (N := No) (N' := No) (e_lent (K := K) (N' := No) ev) (e_int (i := 100))
    rw [List.length_map] at q
    exact q
  · obtain ⟨a, xs, rfl, ha, ra⟩ := r.tupy
    rw [ra.ints] at ha
    exact ⟨_, ⟨a, ns, rfl, .inr (SqT.of ha), rfl⟩, rfl⟩
  · cases r with
    | cons r1 r2 =>
      cases r2
      exact ⟨_, ns, rfl, r1.no, e.ok, fun H' e' => q _ _ e' (.bl _)⟩
theorem rd_is_face (vs : List V) (H : Hp) (Q : VK) (E : XK) (h : sp_is_face T vs H Q E) : r_is_face T { nx := fun _ H' => Q .non H', rt := Q } (start ["name", "rank", "signs"] vs) H := by
  obtain ⟨s, rk, v, ns, rfl, hl, hv, ok, k⟩ := h
  have nW : ∀ a, (Rt T).W a → Dom H a := fun a w => (Nk.dom ok).sub a w
  have hv2 : Dt (Dom H) H (.tuple (ns.map .int)) v := by
    obtain ⟨a, xs, rfl, ha, ra⟩ := hv.tupy
    rw [ra.ints] at ha
    exact .tup ha (dta_ints ns)
  refine s_ret (R := Rt T) (N := No) (d := .bool (faceB s rk ns)) (e_andV (e_call (a_one (e_vs (N := No) (n := s) rfl)) fun H1 vs e r Q q => ?_) fun _ => e_andV (e_chainLe (N := No) e_int (e_vi rfl) e_int) fun _ => e_call (a_one (e_var (N := Dom H) rfl hv2 nW)) fun H1 vs e r Q q => ?_) ok fun v H2 e r => by cases r; exact k _ e
  · cases r with
    | cons r1 r2 =>
      cases r2; cases r1
      exact ⟨s, rfl, hl, e.ok, fun H' e' => q _ _ e' (.bl _)⟩
  · cases r with
    | cons r1 r2 =>
      cases r2
      exact ⟨_, ns, rfl, r1.no, e.ok, fun H' e' => q _ _ e' (.bl _)⟩
end
end FF
set_option Elab.async false
set_option linter.all false
set_option maxRecDepth 100000
set_option maxHeartbeats 4000000
/-! the program: the first bad face -/
namespace FF
open PySem PySem.Spec PyProof.Rows L2
open GxR (TabB TabG Tabbed)
section
variable {T : List Addr} {H H1 : Hp} {p : Addr} {o : HO}
theorem rt_not (ok : (Rt T).I H) (hp : H p = none) : p ∉ T := fun z => by
  obtain ⟨ps, e, _⟩ := ok p z
  rw [hp] at e
  cases e
theorem rt_upd (ok : (Rt T).I H) (hp : p ∉ T) : (Rt T).I (upd H p o) := fun a ha => by
  obtain ⟨ps, e, t⟩ := ok a ha
  exact ⟨ps, by rw [upd_ne (fun z => hp (by rw [← z]; exact ha))]; exact e, t⟩
/-- a thing that wasn't there at first changes -/
theorem Le.putT (e : Le (Rt T) H H1) (hp : H p = none) : Le (Rt T) H (upd H1 p o) where
  ext := fun a u w h => by rw [upd_ne (ne_of_none h hp)]; exact e.ext a u w h
  back := fun a h => by
    by_cases z : a = p
    · rw [z]; exact hp
    · rw [upd_ne z] at h; exact e.back a h
  ok0 := e.ok0
  ok := rt_upd e.ok (rt_not e.ok0 hp)
end
section
variable {R : Rg} {K : PySem.W.Frag} {σ : L2.St} {H Hn : Hp} {N : Addr → Prop} {D : Ends} {tu tz : TS} {g : TG}
/-- for i, target in enumerate(a list of data that stands) -/
theorem q_forEnG {i j : Nat} {v : V} {ds : List PyData} (hσ : σ[i]? = some (some v)) (r : Dt N Hn (.list ds) v) (sub : ∀ a, R.W a → N a) (Pv : Nat → L2.St → Hp → Prop) (h0 : Pv 0 σ H) (hle : ∀ i σ' H', Pv i σ' H' → Le R Hn H')
    (hs : ∀ i x v σ' H' H'', ds[i]? = some x → Pv i σ' H' → Le R H' H'' → Dt N H'' x v → g v (σ'.set j (some (.int i))) H'' fun σ2 H2 => ([] : List V) = [] ∧ tu { D with nx := Pv (i + 1), ct := Pv (i + 1), bk := tz D } σ2 H2) (hd : ∀ σ' H', Pv ds.length σ' H' → tz D σ' H') :
    tSeq (tFor (iEnum K (tCons (tVar i) tNil)) (gTup K 2 (gCons (gName j) (gCons g gNil))) tu) tz D σ H := by
  obtain ⟨a, xs, rfl, na, hl, ra⟩ := r.listy
  have naW : ¬ R.W a := fun w => na (sub a w)
  refine ⟨_, hσ, a, xs, rfl, SqL.of ((hle 0 σ H h0).ext a _ naW hl), for_en (D := { D with nx := tz D }) (xs := xs) Pv h0 (fun i σ' H' _ p => SqL.of ((hle i σ' H' p).ext a _ naW hl)) (fun i x σ' H' T hi p hT => ?_) (fun σ' H' p => ?_)⟩
  · obtain ⟨dx, hdx, rx⟩ := ra.getV hi
    have l0 := hle i σ' H' p
    obtain ⟨l1, -⟩ := new_t sub l0.ok hT (.cons (.int (i : Int)) (.cons (rx.le l0 sub) .nil))
    refine ⟨T, _, rfl, SqT.of upd_same, rfl, _, _, rfl, _, _, rfl, ?_⟩
    exact hs i dx x σ' H' _ hdx p l1 (rx.le (l0.trans l1) sub)
  · rw [ra.length] at p
    exact hd σ' H' p
end
/-- the first bad face -/
def badI (fs : List Face) (i : Nat) : Bool := decide ((fs.getD i default).name ∈ (fs.take i).map (·.name)) || !faceB (fs.getD i default).name (fs.getD i default).rank (fs.getD i default).signs
def badF (fs : List Face) : Option Nat := (List.range fs.length).find? (badI fs)
def optV : Option Nat → V
  | none => .non
  | some i => .int (i : Int)
def sp_first_bad (T : List Addr) : Sp := fun vs H Q _ => ∃ (v : V) (fs : List Face), vs = [v] ∧ Dt No H (facesD fs) v ∧ fs.length ≤ 1000 ∧ (∀ f ∈ fs, f.name.length ≤ 100000) ∧ (Rt T).I H ∧ ∀ H', Le (Rt T) H H' → Q (optV (badF fs)) H'
abbrev r_first_bad (P : Program) (w : World) (K : PySem.W.Frag) (T : List Addr) : TS :=
    (tSeq (tAsg (tCB (rSet0K P w) tNil) (gName 1))
    (tSeq (tFor (iEnum K (tCons (tVar 0) tNil)) (gTup K 2 (gCons (gName 2) (gCons (gTup K 3 (gCons (gName 3) (gCons (gName 4) (gCons (gName 5) gNil)))) gNil))) (tSeq (tIfS (tOr (tTest (tOp (rSInK P w false) (tVar 3) (tVar 1))) (tNot (tTru K (tCall (sp_is_face T) [] E0 (tCons (tVar 3) (tCons (tVar 4) (tCons (tVar 5) tNil))))))) (tRet (tVar 2)) tNext)
    (tDrop (tSAddK P w (tVar 1) (tCons (tVar 3) tNil)))))
    (tRet (tC .non))))
theorem face_ix {fs : List Face} {i : Nat} {x : PyData} (h : (fs.map faceD)[i]? = some x) : ∃ f, fs[i]? = some f ∧ x = faceD f := by
  rw [List.getElem?_map] at h
  cases e : fs[i]? with
  | none => rw [e] at h; cases h
  | some f => rw [e] at h; exact ⟨f, rfl, (Option.some.inj h).symm⟩
theorem badF_none {fs : List Face} (h : ∀ j, j < fs.length → badI fs j = false) : badF fs = none := by
  unfold badF
  rw [List.find?_eq_none]
  intro i hi
  rw [h i (List.mem_range.1 hi)]
  decide
theorem badF_some {fs : List Face} {i : Nat} (hi : i < fs.length) (h : ∀ j, j < i → badI fs j = false) (hb : badI fs i = true) : badF fs = some i := by
  unfold badF
  rw [List.find?_range_eq_some]
  exact ⟨hb, List.mem_range.2 hi, fun j hj => by rw [h j hj]; rfl⟩
theorem rd_first_bad {P : Program} {w : World} {K : PySem.W.Frag} {T : List Addr} (vs : List V) (H : Hp) (Q : VK) (E : XK) (h : sp_first_bad T vs H Q E) : r_first_bad P w K T { nx := fun _ H' => Q .non H', rt := Q } (start ["faces", "ahead", "number", "name", "rank", "signs"] vs) H := by
  obtain ⟨v, fs, rfl, hv, hl, hn, ok, k⟩ := h
  refine ⟨rfl, fun p hp => ?_⟩
  have l0 : Le (Rt T) H (upd H p (SetK P w p (fun _ => false) 0)) := Le.new hp ok
  have nW : ∀ a, (Rt T).W a → a ∈ T := fun a w => w
  have hv2 : Dt (fun a => a ∈ T) H (facesD fs) v := hv.rt ok
  refine q_forEnG (R := Rt T) (N := fun a => a ∈ T) (i := 0) (j := 2) (σ := [some v, some (.ref p), none, none, none, none]) rfl hv2 nW
    (fun i σ' H' => (∃ a b c d, σ' = [some v, some (.ref p), a, b, c, d]) ∧ Le (Rt T) H H' ∧ (∀ j, j < i → badI fs j = false) ∧ ∃ S n, H' p = some (SetK P w p S n) ∧ n ≤ i ∧ ∀ k, S k = true ↔ ∃ f ∈ fs.take i, k = .inr f.name)
    ⟨⟨_, _, _, _, rfl⟩, l0, fun j hj => absurd hj (Nat.not_lt_zero _), _, 0, upd_same, Nat.le_refl _, fun k => ⟨fun z => absurd z (by decide), fun ⟨f, hf, _⟩ => by simp at hf⟩⟩ (fun i σ' H' q => q.2.1) (fun i x u σ' H' H'' hi q l1 r => ?_) (fun σ' H' q => ?_)
  · obtain ⟨⟨a, b, c, d, rfl⟩, l2, hb, S, n, hS, hSn, hSk⟩ := q
    obtain ⟨f, hf, rfl⟩ := face_ix hi
    have pW : ¬ (Rt T).W p := rt_not ok hp
    have hlt : i < fs.length := (List.getElem?_eq_some_iff.1 hf).1
    have hS2 := l1.ext p _ pW hS
    obtain ⟨at_, xs, rfl, ht, ra⟩ := r.tupy
    cases ra with
    | cons r1 ra => cases ra with
      | cons r2 ra => cases ra with
        | cons r3 ra =>
          cases ra
          cases r1; cases r2
          rename_i sv
          refine ⟨at_, _, rfl, SqT.of ht, rfl, _, _, rfl, _, _, rfl, _, _, rfl, rfl, rfl, ?_⟩
          show tSeq _ _ _ [some v, some (.ref p), some (.int i), some (.str f.name), some (.int f.rank), some sv] H''
          have gd : fs.getD i default = f := by rw [List.getD_eq_getElem?_getD, hf]; rfl
          have te : EvT (Rt T) (tOr (tTest (tOp (rSInK P w false) (tVar 3) (tVar 1))) (tNot (tTru K (tCall (sp_is_face T) [] E0 (tCons (tVar 3) (tCons (tVar 4) (tCons (tVar 5) tNil))))))) [some v, some (.ref p), some (.int i), some (.str f.name), some (.int f.rank), some sv] H'' (badI fs i) := by
            have eS : S (.inr f.name) = decide (f.name ∈ (fs.take i).map (·.name)) := by
              rw [Bool.eq_iff_iff, hSk, decide_eq_true_iff, List.mem_map]
              constructor
              · rintro ⟨g, hg, e⟩
                exact ⟨g, hg, (Sum.inr.inj e).symm⟩
              · rintro ⟨g, hg, e⟩
                exact ⟨g, hg, by rw [e]⟩
            refine (t_or (a := S (.inr f.name)) (b := !faceB f.name f.rank f.signs) (fun H1 e1 Q q => ?_) fun _ => t_not (t_trub (N := No) (e_call (ds := [.str f.name, .int f.rank, .tuple (f.signs.map .int)]) (a_cons (N := fun a => a ∈ T) (e_vs rfl) (a_cons (e_vi rfl) (a_one (e_var rfl r3 nW)) nW) nW) fun H1 vs e r Q q => ?_))).is (by unfold badI; rw [gd, eS])
            · exact ⟨_, rfl, _, rfl, .inr f.name, p, S, n, rfl, rfl, e1.ext p _ pW hS2, _, rfl, q _ (Le.refl e1.ok)⟩
            · cases r with
              | cons q1 r => cases r with
                | cons q2 r => cases r with
                  | cons q3 r =>
                    cases r; cases q1; cases q2
                    exact ⟨f.name, f.rank, _, f.signs, rfl, hn f (List.mem_of_getElem? hf), q3.no, e.ok, fun H' e' => q _ _ e' (.bl _)⟩
          refine q_if te l1.ok (fun c H2 e2 => ?_) (fun c H2 e2 => ?_)
          · refine s_ret (R := Rt T) (N := No) (e_vi rfl) e2.ok fun z H3 e3 rz => ?_
            cases rz
            have := k H3 (((l2.trans l1).trans e2).trans e3)
            rw [badF_some hlt hb c] at this
            exact this
          · have hS3 := e2.ext p _ pW hS2
            refine ⟨_, rfl, ⟨p, S, n, rfl, hS3⟩, _, rfl, p, .inr f.name, S, n, rfl, rfl, hS3, ?_, ⟨_, _, _, _, rfl⟩, ((l2.trans l1).trans e2).putT hp, fun j hj => ?_, _, _, upd_same, ?_, fun k => ?_⟩
            · have : scanBound = 4096 := rfl
              omega
            · rcases Nat.lt_succ_iff_lt_or_eq.1 hj with z | z
              · exact hb j z
              · rw [z]; exact c
            · split <;> omega
            · rw [List.take_succ, hf]
              simp only [Bool.or_eq_true, decide_eq_true_eq, hSk]
              constructor
              · rintro (⟨g, hg, e⟩ | e)
                · exact ⟨g, List.mem_append_left _ hg, e⟩
                · exact ⟨f, by simp, e⟩
              · rintro ⟨g, hg, e⟩
                rcases List.mem_append.1 hg with z | z
                · exact .inl ⟨g, z, e⟩
                · have : g = f := by simpa using z
                  exact .inr (by rw [e, this])
  · obtain ⟨_, l2, hb, _⟩ := q
    rw [List.length_map] at hb
    refine s_ret (R := Rt T) (N := No) e_non l2.ok fun z H3 e3 rz => ?_
    cases rz
    have := k H3 (l2.trans e3)
    rw [badF_none hb] at this
    exact this
end FF
set_option Elab.async false
set_option linter.all false
set_option maxRecDepth 100000
set_option maxHeartbeats 4000000
/-! the program: a case -/
namespace FF
open PySem PySem.Spec PyProof.Rows L2
open GxR (TabB TabG Tabbed)
def NamesShort (fs : List Face) : Prop := ∀ f ∈ fs, f.name.length ≤ 100000
def sp_refuse_caseN (T : List Addr) : Sp := fun vs H Q _ => ∃ (v : V) (fs : List Face), vs = [v] ∧ Dt No H (facesD fs) v ∧ fs.length ≤ 8 ∧ NamesShort fs ∧ badF fs = none ∧ (Rt T).I H ∧ ∀ H', Le (Rt T) H H' → Q .non H'
abbrev r_refuse_caseN (K : PySem.W.Frag) (T : List Addr) : TS :=
    (tSeq (tIfS (tTest (tOp (rI0 fun i j => .bl (decide (j < i))) (tCB (rLenU K) (tCons (tVar 0) tNil)) (tC (.int 8)))) tNever tNext)
    (tSeq (tAsg (tCall (sp_first_bad T) [] E0 (tCons (tVar 0) tNil)) (gName 1))
    (tIfS (tTest (tOp (rIsN true) (tVar 1) (tC .non))) tNever tNext)))
/-- a case of these faces stands at x, its list apart from what N holds -/
def CaseAt (N : Addr → Prop) (C : Addr) (H : Hp) (x : Addr) (fs : List Face) : Prop :=
  ∃ (dx l : Addr) (xs : List V), ¬ N x ∧ ¬ N l ∧ H x = some (.ins C dx [("_faces", .ref l)]) ∧ H l = some (.lst xs) ∧ DtA No H (fs.map faceD) xs
def sp_init (C : Addr) (T : List Addr) : Sp := fun vs H Q _ => ∃ (x dx : Addr) (v : V) (fs : List Face), vs = [.ref x, v] ∧ Dt No H (facesD fs) v ∧ H x = some (.ins C dx []) ∧ fs.length ≤ 8 ∧ NamesShort fs ∧ badF fs = none ∧ (Rt T).I H ∧
  ∀ (H1 : Hp) (l : Addr) (xs : List V), Le (Rt T) H H1 → H l = none → H1 l = some (.lst xs) → DtA No H1 (fs.map faceD) xs → Q .non (upd H1 x (.ins C dx [("_faces", .ref l)]))
abbrev r_init (K : PySem.W.Frag) (T : List Addr) : TS :=
    (tSeq (tDrop (tCall (sp_refuse_caseN T) [] E0 (tCons (tVar 1) tNil)))
    (sFld K (tVar 0) (tCB (rListU K) (tCons (tVar 1) tNil)) "_faces"))
def sp_faces (C : Addr) : Sp := fun vs H Q _ => ∃ (x : Addr) (fs : List Face), vs = [.ref x] ∧ CaseAt No C H x fs ∧ ∀ H' u, Le R0 H H' → Dt (Dom H) H' (facesD fs) u → Q u H'
abbrev r_faces (K : PySem.W.Frag) : TS :=
    (tRet (tCB (rListU K) (tCons (tFld K (tVar 0) "_faces") tNil)))
section
variable {R : Rg} {K : PySem.W.Frag} {σ : L2.St} {H H' : Hp} {N N' : Addr → Prop} {ta tb tc te : TE}
theorem e_b0 {g : Int → Int → Bool} {a b : Int} (ha : Ev R ta σ H N (.int a)) (hb : Ev R tb σ H N (.int b)) : Ev R (tOp (rI0 fun i j => .bl (g i j)) ta tb) σ H N' (.bool (g a b)) := fun H1 e Q q =>
  ha H1 e _ fun u H2 e2 ru => hb H2 (e.trans e2) _ fun v H3 e3 rv => by
    cases ru; cases rv
    exact ⟨a, b, rfl, rfl, q _ H3 (e2.trans e3) (.bl _)⟩
end
section
variable {K : PySem.W.Frag} {T : List Addr} {P : Addr}
theorem rd_refuse_caseN (vs : List V) (H : Hp) (Q : VK) (E : XK) (h : sp_refuse_caseN T vs H Q E) : r_refuse_caseN K T { nx := fun _ H' => Q .non H', rt := Q } (start ["faces", "number"] vs) H := by
  obtain ⟨v, fs, rfl, hv, hl, hn, hb, ok, k⟩ := h
  have nW : ∀ a, (Rt T).W a → a ∈ T := fun a w => w
  have hv2 : Dt (fun a => a ∈ T) H (facesD fs) v := hv.rt ok
  refine q_no (R := Rt T) ((t_cmp (e_b0 (N := fun a => a ∈ T) (N' := No) (e_lenl (N := fun a => a ∈ T) (e_var rfl hv2 nW)) e_int)).is (decide_eq_false ?_)) ok fun H1 e1 => ?_
  · rw [List.length_map]
    omega
  · refine q_asg (R := Rt T) (N := No) (d := .none) (e_call (a_one (e_var (N := fun a => a ∈ T) rfl (hv2.le e1 nW) nW)) fun H2 vs e r Q q => ?_) e1.ok fun v2 H2 e2 r2 => ?_
    · cases r with
      | cons r1 r2 =>
        cases r2
        refine ⟨_, fs, rfl, r1.no, by omega, hn, e.ok, fun H' e' => ?_⟩
        rw [hb]
        exact q _ _ e' .non
    · cases r2
      refine s_if (R := Rt T) (b := false) ((t_cmp (e_isN (N := No) (d := .none) (neg := true) (fun H3 e3 Q q => ⟨.non, rfl, q _ H3 (Le.refl e3.ok) .non⟩))).is rfl) e2.ok (fun c H3 e3 => absurd c (by decide)) (fun c H3 e3 => ?_)
      exact k _ ((e1.trans e2).trans e3)
theorem DtA.notW {N : Addr → Prop} {W : Addr → Prop} {H : Hp} {ds : List PyData} {vs : List V} (h : DtA N H ds vs) (hW : ∀ a xs, W a → H a ≠ some (.lst xs)) : DtA W H ds vs := by
  induction ds generalizing vs with
  | nil => cases h; exact .nil
  | cons d ds ih => cases h with
    | cons r t => exact .cons (r.notW hW) (ih t)
theorem face_any {N N' : Addr → Prop} {H : Hp} {f : Face} {v : V} (h : Dt N H (faceD f) v) : Dt N' H (faceD f) v := by
  obtain ⟨a, xs, rfl, ha, ra⟩ := h.tupy
  cases ra with
  | cons r1 ra => cases ra with
    | cons r2 ra => cases ra with
      | cons r3 ra =>
        cases ra; cases r1; cases r2
        obtain ⟨b, ys, rfl, hb, rb⟩ := r3.tupy
        rw [rb.ints] at hb
        exact .tup ha (.cons (.str _) (.cons (.int _) (.one (.tup hb (dta_ints _)))))
theorem faces_any {N N' : Addr → Prop} {H : Hp} : ∀ {fs : List Face} {xs : List V}, DtA N H (fs.map faceD) xs → DtA N' H (fs.map faceD) xs
  | [], _, .nil => .nil
  | _ :: _, _, .cons r t => .cons (face_any r) (faces_any t)
theorem rd_init {C : Addr} (hc : L2.Cls K C) (hn : NoAttr K C "_faces") (vs : List V) (H : Hp) (Q : VK) (E : XK) (h : sp_init C T vs H Q E) : r_init K T { nx := fun _ H' => Q .non H', rt := Q } (start ["self", "faces"] vs) H := by
  obtain ⟨x, dx, v, fs, rfl, hv, hx, hl, hns, hb, ok, k⟩ := h
  have nW : ∀ a, (Rt T).W a → a ∈ T := fun a w => w
  have hv2 : Dt (fun a => a ∈ T) H (facesD fs) v := hv.rt ok
  refine q_drop (R := Rt T) (N := No) (d := .none) (e_call (a_one (e_var (N := fun a => a ∈ T) rfl hv2 nW)) fun H2 vs e r Q q => ?_) ok fun H1 e1 => ?_
  · cases r with
    | cons r1 r2 =>
      cases r2
      exact ⟨_, fs, rfl, r1.no, hl, hns, hb, e.ok, fun H' e' => q _ _ e' .non⟩
  · obtain ⟨a, xs, rfl, na, ha, ra⟩ := (hv2.le e1 nW).listy
    refine ⟨_, rfl, a, xs, rfl, .inl (SqL.of ha), fun l hl2 => ?_⟩
    have xT : ¬ (Rt T).W x := fun w => by
      obtain ⟨ps, e, _⟩ := ok x w
      rw [hx] at e
      cases e
    have h1 := e1.ext x _ xT hx
    have xl : x ≠ l := fun z => by rw [← z, h1] at hl2; cases hl2
    refine ⟨_, rfl, x, C, dx, [], rfl, by rw [upd_ne xl]; exact h1, hc, hn, by show 0 < 1000; decide, ?_⟩
    have l3 : Le (Rt T) H1 (upd H1 l (.lst xs)) := Le.new hl2 e1.ok
    exact k _ l xs (e1.trans l3) (e1.back _ hl2) upd_same ((ra.le l3 nW).notW fun a xs z => z.elim)
theorem rd_faces {C : Addr} (hc : L2.Cls K C) (hn : NoAttr K C "_faces") (vs : List V) (H : Hp) (Q : VK) (E : XK) (h : sp_faces C vs H Q E) : r_faces K { nx := fun _ H' => Q .non H', rt := Q } (start ["self"] vs) H := by
  obtain ⟨x, fs, rfl, ⟨dx, l, xs, _, _, hx, hl, ra⟩, k⟩ := h
  refine ⟨_, rfl, x, C, dx, _, .ref l, rfl, hx, hc, hn, rfl, l, xs, rfl, .inl (SqL.of hl), fun p hp => ?_⟩
  have l3 : Le R0 H (upd H p (.lst xs)) := Le.new hp trivial
  refine k _ _ l3 (.lst (fun ⟨o, e⟩ => by rw [hp] at e; cases e) upd_same ?_)
  exact faces_any (ra.le l3 fun _ z => z.elim)
end
end FF
set_option Elab.async false
set_option linter.all false
set_option maxRecDepth 100000
set_option maxHeartbeats 4000000
/-! comprehensions over enumerate; the program: the faces that have a cluster -/
namespace FF
open PySem PySem.Spec PyProof.Rows L2
open GxR (TabB TabG Tabbed)
theorem lc_en {K : PySem.W.Frag} {a : Addr} {xs : List V} {g : TG} {tt : TT} {te : TE} {vs : List Nat} {σ : L2.St} {H1 : Hp} {D : Addr} {Qd : Hp → Prop} (Pv : Nat → Hp → Prop) (h0 : Pv 0 (upd H1 D (.lst []))) (hl : ∀ i H, i ≤ xs.length → Pv i H → SqL K H a xs)
    (hs : ∀ i x H T, xs[i]? = some x → Pv i H → H T = none → g (.ref T) (wipe σ vs) (upd H T (.tup [.int i, x])) fun σ2 H2 => wipe σ2 vs = wipe σ vs ∧ tt σ2 H2 fun b H3 =>
      if b = true then te σ2 H3 fun y H4 => ∃ acc, H4 D = some (.lst acc) ∧ acc.length < sizeLine ∧ Pv (i + 1) (upd H4 D (.lst (acc ++ [y]))) else Pv (i + 1) H3) (hd : ∀ H, Pv xs.length H → Qd H) :
    ∃ W : Nat → Nat → Hp → Prop, (∃ m, W 0 m (upd H1 D (.lst []))) ∧ ∀ i m H, W i m H →
      ((Ite K a).stop i H ∧ Qd H) ∨ ((Ite K a).go i H ∧ ∃ Nx : Hp → Prop, (∀ H', Nx H' → ∃ m', m' < m ∧ W (i + 1) m' H') ∧ ∀ x H', (Ite K a).yld i H x H' → g x (wipe σ vs) H' fun σ2 H2 => wipe σ2 vs = wipe σ vs ∧ tt σ2 H2 fun b H3 =>
        if b = true then te σ2 H3 fun y H4 => ∃ acc, H4 D = some (.lst acc) ∧ acc.length < sizeLine ∧ Nx (upd H4 D (.lst (acc ++ [y]))) else Nx H3) := by
  refine ⟨fun i m H => m = xs.length - i ∧ i ≤ xs.length ∧ Pv i H, ⟨xs.length, by simp, Nat.zero_le _, h0⟩, ?_⟩
  rintro i m H ⟨rfl, hi, p⟩
  have q := hl i H hi p
  by_cases hlt : i < xs.length
  · refine .inr ⟨⟨xs, xs[i], q, by simp [hlt]⟩, Pv (i + 1), fun H' p' => ⟨xs.length - (i + 1), by omega, rfl, hlt, p'⟩, ?_⟩
    rintro x H' ⟨T, y, rfl, hT, rfl, hy⟩
    exact hs i y H T (hy xs q) p hT
  · obtain rfl : i = xs.length := by omega
    exact .inl ⟨⟨xs, q, Nat.le_refl _⟩, hd H p⟩
section
variable {R : Rg} {K : PySem.W.Frag} {σ : L2.St} {H H' : Hp} {N N' : Addr → Prop} {t : TT} {te : TE}
theorem lw_le {T : Nat → Option PyData → Prop} {D : Addr} {i : Nat} {H1 H2 : Hp} (nk : Nk R N H) (hD : H D = none) (p : Lw R H N T D i H1) (e : Le R H1 H2) : Lw R H N T D i H2 := by
  obtain ⟨le', os, vs', h1, h2, h3, h4⟩ := p
  have hDW : ¬ R.W D := fun w => by obtain ⟨xs, q, _⟩ := R.wt H D le'.ok0 w; rw [hD] at q; cases q
  exact ⟨le'.trans e, os, vs', h1, h2, e.ext D _ hDW h3, h4.le e fun a w => .inr (nk.sub a w)⟩
theorem p_lcEn {tl : TE} {g : TG} {j : Nat} {vs : List Nat} {ds : List PyData} (T : Nat → Option PyData → Prop) {N0 : Addr → Prop} (h : Ev R tl σ H N0 (.list ds)) (s0 : ∀ a, R.W a → N0 a) (hz : ds.length ≤ 40000) (nk : Nk R N H)
    (ht : ∀ (i : Nat) (x : PyData) (v : V) D H1, H D = none → Le R H H1 → Nk R (fun a => a = D ∨ N a) H1 → ds[i]? = some x → Dt (fun a => a = D ∨ N0 a) H1 x v →
      ∃ σ2, (∀ Qs : L2.St → Hp → Prop, Qs σ2 H1 → g v ((wipe σ vs).set j (some (.int i))) H1 fun σ' H' => ([] : List V) = [] ∧ Qs σ' H') ∧ wipe σ2 vs = wipe σ vs ∧ EvF R t te σ2 H1 (fun a => a = D ∨ N a) (T i)) :
    EvP R (tLc (iEnum K (tCons tl tNil)) (gTup K 2 (gCons (gName j) (gCons g gNil))) t te vs) σ H N (Out ds.length T) := fun H0 e Q q => h H0 e _ fun v H1 e1 r => by
  obtain ⟨a, xs, rfl, na, hl, ra⟩ := r.listy
  refine ⟨a, xs, rfl, SqL.of hl, fun D hD => ?_⟩
  have e01 := e.trans e1
  have naW : ¬ R.W a := fun w => na (s0 a w)
  refine lc_en (xs := xs) (Lw R H1 N T D) (lw_start e1.ok hD) (fun i H' _ p => SqL.of (p.1.ext a _ naW hl)) (fun i x H' Tp hi p hT => ?_) (fun H' p => ?_)
  · obtain ⟨dx, hdx, rx⟩ := ra.getV hi
    have hib := (List.getElem?_eq_some_iff.mp hdx).1
    have rx1 := (rx.more hD).le p.1 fun b w => .inr (s0 b w)
    obtain ⟨l1, -⟩ := new_t (N := fun a => a = D ∨ N0 a) (fun b w => .inr (s0 b w)) p.1.ok hT (.cons (.int (i : Int)) (.cons rx1 .nil))
    have p2 := lw_le (nk.le e01) hD p l1
    have p' := p2
    obtain ⟨le', os, vs', _, _, h1, _⟩ := p'
    obtain ⟨σ2, hg, hw, hF⟩ := ht i dx x D _ (e01.back D hD) (e01.trans le') (nk_more (nk.le e01) le' h1) hdx (rx1.le l1 fun b w => .inr (s0 b w))
    refine ⟨Tp, _, rfl, SqT.of upd_same, rfl, _, _, rfl, _, _, rfl, ?_⟩
    exact hg _ ⟨hw, lw_turn (nk.le e01) hD p2 (by omega) hF⟩
  · rw [ra.length] at p
    obtain ⟨d, o, le', r⟩ := lw_end (nk.le e01) hD p
    exact q d _ H' (e1.trans le') o r
end
/-- the numbers of the faces that have all of these signs -/
def sp_having (T : List Addr) : Sp := fun vs H Q _ => ∃ (v1 v2 : V) (fs : List Face) (s : List Int), vs = [v1, v2] ∧ Dt No H (facesD fs) v1 ∧ Dt No H (.tuple (s.map .int)) v2 ∧ fs.length ≤ 1000 ∧ (Rt T).I H ∧
  ∀ u H', Le (Rt T) H H' → Dt (Dom H) H' (natsD (havP fs s)) u → Q u H'
abbrev r_having (K : PySem.W.Frag) (P : Addr) : TS :=
    (tRet (tLc (iEnum K (tCons (tVar 0) tNil)) (gTup K 2 (gCons (gName 2) (gCons (gTup K 3 (gCons (gName 3) (gCons (gName 3) (gCons (gName 4) gNil)))) gNil))) (tTru K (tAllG P (cIn K 4) (tVar 1))) (tVar 2) [2, 3, 4]))
theorem rd_having {K : PySem.W.Frag} {T : List Addr} {P : Addr} (hP : P ∈ T) (vs : List V) (H : Hp) (Q : VK) (E : XK) (h : sp_having T vs H Q E) : r_having K P { nx := fun _ H' => Q .non H', rt := Q } (start ["faces", "cluster", "number", "_", "signs"] vs) H := by
  obtain ⟨v1, v2, fs, s, rfl, h1, h2, hl, ok, k⟩ := h
  have nW : ∀ a, (Rt T).W a → a ∈ T := fun a w => w
  have hv1 : Dt (fun a => a ∈ T) H (facesD fs) v1 := h1.rt ok
  have hv2 : Dt (fun a => a ∈ T) H (.tuple (s.map .int)) v2 := h2.rt ok
  have lf : (fs.map faceD).length = fs.length := List.length_map ..
  refine s_retP (R := Rt T) (N := Dom H) (φp := fun d => d = natsD (havP fs s)) ((p_lcEn (N0 := fun a => a ∈ T) (ds := fs.map faceD) (fun i o => o = if hasAll (fs.getD i default) s = true then some (PyData.int (i : Int)) else none) (e_var rfl hv1 nW) nW (by rw [lf]; omega) (Nk.dom ok) fun i x v D H1 hD e1 nk hi r => ?_).imp fun d o => ?_) ok fun d u H2 e2 hd r => by subst hd; exact k u H2 e2 r
  · obtain ⟨f, hf, rfl⟩ := face_ix hi
    obtain ⟨at_, xs, rfl, ht, ra⟩ := r.tupy
    cases ra with
    | cons r1 ra => cases ra with
      | cons r2 ra => cases ra with
        | cons r3 ra =>
          cases ra
          cases r1; cases r2
          rename_i sv
          refine ⟨[some v1, some v2, some (.int i), some (.int f.rank), some sv], fun Qs q => ⟨at_, _, rfl, SqT.of ht, rfl, _, _, rfl, _, _, rfl, _, _, rfl, rfl, rfl, q⟩, rfl, ?_⟩
          have gd : fs.getD i default = f := by rw [List.getD_eq_getElem?_getD, hf]; rfl
          refine f_det (b := hasAll (fs.getD i default) s) (t_trub (N := No) (e_allG (N := fun a => a ∈ T) (rt_has hP) (e_var rfl (hv2.le e1 nW) nW) fun H2 v e r => ?_)) fun _ => e_vi rfl
          obtain ⟨a, ys, rfl, ha, rb⟩ := r.tupy
          rw [rb.ints] at ha
          obtain ⟨b, zs, rfl, hb, rc⟩ := r3.tupy
          rw [rc.ints] at hb
          have bW : ¬ (Rt T).W b := fun w => by
            obtain ⟨ps, q, _⟩ := e1.ok b w
            rw [hb] at q
            cases q
          exact ⟨_, ⟨a, b, s, f.signs, rfl, .inr (SqT.of ha), rfl, .inr (SqT.of (e.ext b _ bW hb)), rfl⟩, by rw [all_map_id, gd]; rfl⟩
  · have q := out_det (f := fun i => hasAll (fs.getD i default) s) (g := fun i => PyData.int (i : Int)) o
    rw [q, lf]
    rfl
end FF
set_option Elab.async false
set_option linter.all false
set_option maxRecDepth 100000
set_option maxHeartbeats 4000000
/-! set comprehensions of whole numbers -/
namespace FF
open PySem PySem.Spec PyProof.Rows L2
section
variable {X : Cx}
/-- one more number in a set -/
theorem addI_ok {pns : List (Addr × Obj)} {τ : L2.St} {G : Hp} {u : Shared} {E : Value → Shared → Prop} {D : Addr} {S : Int → Bool} {n : Nat} {z : Int} {tk : Tok} {Q : Value → Shared → Prop} (J : Inv X pns τ G u) (hD : G D = some (SetO X.w D S n)) (room : n + 1 < scanBound)
    (h : ∀ u', Inv X pns τ (upd G D (SetO X.w D (fun j => S j || decide (j = z)) (if S z = true then n else n + 1))) u' → Q .none u') : wpAny (model X.prog X.w) X.A (call (.builtin "set.add") [.ref D, .int z tk]) Q E u :=
  setR_add (setO_get J hD) room fun g sb R => h _ (J.write (e := D) (t' := u.toks + 1) (by rw [hD]; trivial) (.inl rfl) (fun b o hb ho => (sb.2 b hb).trans ho) (let ⟨o, _, _, _, ho, _⟩ := R; ⟨o, ho⟩) (setO_new R))
/-- {elt for target in iter if ..}, elt a whole number: D the new set -/
def tScI (w : World) (wi : TI) (g : TG) (tt : TT) (te : TE) (vs : List Nat) : TE := fun τ G Q => wi τ G fun J G1 => ∀ D, G1 D = none → ∃ W : Nat → Nat → Hp → Prop, (∃ m, W 0 m (upd G1 D (SetO w D (fun _ => false) 0))) ∧ ∀ i m G, W i m G →
  (J.stop i G ∧ Q (.ref D) G) ∨ (J.go i G ∧ ∃ Nx : Hp → Prop, (∀ G', Nx G' → ∃ m', m' < m ∧ W (i + 1) m' G') ∧ ∀ x G', J.yld i G x G' → g x (wipe τ vs) G' fun τ2 G2 => wipe τ2 vs = wipe τ vs ∧ tt τ2 G2 fun b G3 =>
    if b = true then te τ2 G3 fun y G4 => ∃ (c : Int) (S : Int → Bool) (n : Nat), y = .int c ∧ G4 D = some (SetO w D S n) ∧ n + 1 < scanBound ∧ Nx (upd G4 D (SetO w D (fun j => S j || decide (j = c)) (if S c = true then n else n + 1))) else Nx G3)
theorem pe_scI {elt tg iter : Expr} {ifs : List Expr} {scope : Scope} {own : List (PySem.Str × Nat)} {pos : Pos} {wi : TI} {g : TG} {tt : TT} {te : TE} (hc : X.calm = true) (hN : X.N.Nodup) (hi : PI X tg iter wi) (ok : BlkOk X.N X.env.scope scope own)
    (hg : ∀ (u : Shared) (G : Hp) (C : Addr) (cl : List (PySem.Str × Addr)) (fp : List Addr), PG (X.blk u G scope (compEnvC scope cl C X.env) fp) tg g) (ht : ∀ (u : Shared) (G : Hp) (C : Addr) (cl : List (PySem.Str × Addr)) (fp : List Addr), PTs (X.blk u G scope (compEnvC scope cl C X.env) fp) ifs tt)
    (he : ∀ (u : Shared) (G : Hp) (C : Addr) (cl : List (PySem.Str × Addr)) (fp : List Addr), PE (X.blk u G scope (compEnvC scope cl C X.env) fp) elt te) (hs : ∀ x, foldedSetIterable iter X.env x = pure x := by intro _; rfl) :
    PE X (.SetComp elt [⟨tg, iter, ifs, 0⟩] scope pos) (tScI X.w wi g tt te (own.map (·.2))) := by
  refine ⟨fun pns u0 τ G Q J0 h => ?_⟩
  rw [PpSet.eval_SetComp]
  have caught : ∀ y ∈ scope.names, y.2 = .free → ∃ c, X.env.cells.lookup y.1 = some c := fun y hy e => (ok.free y hy e).elim (fun q => J0.ok.has _ (.inl q)) (fun q => J0.ok.has _ (.inr q))
  refine wpAny_comprehension_free rfl hs (closure_ok caught) ok.kind (fun y hy e => by rw [ok.uniq y hy, e]) (thn (hi.run pns u0 τ G _ J0 h) fun xv u1 hx => thn hx fun itv u2 h2 => ?_)
  obtain ⟨it, fp, tn, src, G2, rfl, J2, T, st2, f2, q⟩ := h2
  refine PpSet.newSet_ok (newEnv_comp ?_)
  generalize hD : u2.heap.objs.size = D
  obtain ⟨W, ⟨m0, w0⟩, turn⟩ := q D (J2.hok.fresh (Nat.le_of_eq hD))
  generalize hu3 : ({ u2 with heap := u2.heap.push { cls := .type "set", dict := none, data := .set #[] 0 (.fresh 0 0 (!X.w.params.followText "set-order")) } } : Shared) = u3
  have p3 : u3.heap = u2.heap.push { cls := .type "set", dict := none, data := .set #[] 0 (.fresh 0 0 (!X.w.params.followText "set-order")) } := by rw [← hu3]
  have J3 : Inv X pns τ (upd G2 D (SetO X.w D (fun _ => false) 0)) u3 := by
    rw [← hu3]
    exact J2.laid (t' := u2.toks) (fun b o e => Heap.get?_push_of_some _ e) (Nat.le_of_eq hD) (by rw [← hD]; exact setO_new (setR_fresh X.w))
  have low : ∀ b ∈ fp, b < u2.heap.objs.size := fun b hb => let ⟨o, e, _⟩ := T.obj _ _ st2 b hb; Heap.lt_size e
  have f3 : ∀ b ∈ fp, FpOk X pns (upd G2 D (SetO X.w D (fun _ => false) 0)) b ∧ b < u3.heap.objs.size := fun b hb =>
    ⟨⟨by rw [upd_ne (by rw [← hD]; exact Nat.ne_of_lt (low b hb))]; exact (f2 b hb).1, (f2 b hb).2⟩, by rw [p3, Heap.size_push]; exact Nat.lt_succ_of_lt (low b hb)⟩
  have st3 : tn 0 u3.heap := T.keep _ _ _ st2 fun b _ o e => by rw [p3]; exact Heap.get?_push_of_some _ e
  have J4 := block_start J3 ok hN f3
  generalize hcl : cellsFrom (u3.heap.objs.size + 1) scope.names (cloFrom X.env.cells scope.names []) = cl at J4 ⊢
  have pg := hg u3 (upd G2 D (SetO X.w D (fun _ => false) 0)) u3.heap.objs.size cl fp
  have pt := ht u3 (upd G2 D (SetO X.w D (fun _ => false) 0)) u3.heap.objs.size cl fp
  have pe := he u3 (upd G2 D (SetO X.w D (fun _ => false) 0)) u3.heap.objs.size cl fp
  show codeAny _ _ (.compStart (.SetComp elt [⟨tg, iter, ifs, 0⟩] scope pos) 0 (.ref it) (.ref D) (compEnvC scope cl u3.heap.objs.size X.env)) _ { u3 with heap := pushCells (u3.heap.push { cls := .type "dict", data := .dict #[] }) scope.names }
  have none3 : ∀ b ∈ fp, (upd G2 D (SetO X.w D (fun _ => false) 0)) b = none := fun b hb => (f3 b hb).1.1
  generalize hce : compEnvC scope cl u3.heap.objs.size X.env = ce at J4 pg pt pe ⊢
  have cL : ce.locals = u3.heap.objs.size := by rw [← hce]; rfl
  generalize hG3 : upd G2 D (SetO X.w D (fun _ => false) 0) = G3 at J3 J4 pg pt pe w0 none3 f3
  generalize hu4 : ({ u3 with heap := pushCells (u3.heap.push { cls := .type "dict", data := .dict #[] }) scope.names } : Shared) = u4 at J4 ⊢
  have st4 : tn 0 u4.heap := T.keep _ _ _ st3 fun b _ o e => by rw [← hu4]; exact pushCells_keeps _ _ _ _ (Heap.get?_push_of_some _ e)
  have still : ∀ {τ' : L2.St} {G' : Hp} {u' : Shared}, Inv (X.blk u3 G3 scope ce fp) [] τ' G' u' → (∀ b ∈ fp, G' b = none) → ∀ b ∈ fp, FpOk (X.blk u3 G3 scope ce fp) [] G' b := fun {τ' G' u'} J' hn b hb =>
    ⟨hn b hb, (J'.ok.exf b hb).1, J'.ok.exfs b hb, .inl hb, fun x c e => (J'.ok.exf b hb).2 x c e, fun p hp => absurd (show p ∈ ([] : List (Addr × Obj)) ++ [] from hp) (by simp)⟩
  refine PpSet.codeAny_compStart_set ?loop (T.self X.A 0 _ _ _ st4 ?loop)
  refine PpSet.compLoopS_any (fun n u' => ∃ i G', Inv (X.blk u3 G3 scope ce fp) [] (wipe τ (own.map (·.2))) G' u' ∧ tn i u'.heap ∧ (∀ b ∈ fp, G' b = none) ∧ W i n G') ?_ m0 ⟨0, G3, J4, st4, none3, w0⟩
  rintro n u5 ⟨i, G5, J5, st5, n5, w5⟩
  rcases turn i n G5 w5 with ⟨stop, qq⟩ | ⟨go, Nx, hNx, step⟩
  · refine thnF (T.done (X.blk u3 G3 scope ce fp) rfl rfl rfl hc i [] u5 _ G5 (fun _ _ => False) J5 (still J5 n5) st5 stop) fun r u6 hr6 => ?_
    obtain ⟨rfl, J6⟩ := hr6
    have J7 : Inv X pns τ G5 u6 := J3.call' (ch := fp) J6.os J6.base J6.hok J6.bare fun b hb => ⟨(f3 b hb).1.2.2.2.1, (f3 b hb).1.2.1, (f3 b hb).1.2.2.2.2.1, (f3 b hb).1.2.2.2.2.2⟩
    have nC : G5 u3.heap.objs.size = none := cL ▸ (show G5 ce.locals = none from J6.free)
    obtain ⟨m, hn, _⟩ := J6.loc
    have hn' : u6.heap.Ns u3.heap.objs.size m := cL ▸ (show u6.heap.Ns ce.locals m from hn)
    obtain ⟨a0, a1, a2, a3, a4, a5⟩ := J3.fpOk (Nat.le_refl _) nC
    exact ⟨m, hn', fun g' sb => ⟨.ref D, G5, J7.turned (t' := u6.toks) (fun b o hb e => (sb.2 b hb).trans e) a0 a1 a3 a4 a5, rfl, qq⟩⟩
  · refine thnF (T.item (X.blk u3 G3 scope ce fp) rfl rfl rfl hc i [] u5 _ G5 (fun _ _ => False) J5 (still J5 n5) st5 go) fun r u6 hr6 => ?_
    obtain ⟨vv, rfl, h6⟩ := hr6
    refine thnF h6 fun _ u7 ⟨x, G7, J7, r7, y7, st7, n7⟩ => ?_
    refine thnF (pg.run _ u7 _ G7 x vv _ (J7.pinned (still J7 n7) (T.obj _ _ st7)) r7 (step x G7 y7)) fun _ u8 ⟨τ8, G8, J8, hw8, q8⟩ => ?_
    refine thnF (pt.run _ u8 τ8 G8 _ J8 q8) fun b u9 ⟨G9, J9, q9⟩ => ?_
    have fin : ∀ {u' : Shared} {G' : Hp}, Inv (X.blk u3 G3 scope ce fp) ([] ++ pinsAt fp u7.heap) τ8 G' u' → Nx G' → ∃ m, m < n ∧ ∃ i G', Inv (X.blk u3 G3 scope ce fp) [] (wipe τ (own.map (·.2))) G' u' ∧ tn i u'.heap ∧ (∀ b ∈ fp, G' b = none) ∧ W i m G' := fun {u' G'} J' nx => by
      obtain ⟨m', hm, w'⟩ := hNx G' nx
      have pinned : ∀ b ∈ fp, ∀ o, u7.heap.get? b = some o → u'.heap.get? b = some o ∧ G' b = none := fun b hb o e =>
        let z := J'.pin (b, o) (List.mem_append_right _ (List.mem_append_right _ (mem_pinsAt hb e)))
        ⟨z.1, z.2.1⟩
      have same : (wipe τ (own.map (·.2))).length = τ8.length := by rw [← hw8, wipe_length]
      exact ⟨m', hm, i + 1, G', (J'.unpinned (pins := [])).weak same fun j v e => (wipe_some (hw8 ▸ e)).1, T.keep _ _ _ st7 fun b hb o e => (pinned b hb o e).1, fun b hb => let ⟨o, e, _⟩ := T.obj _ _ st7 b hb; (pinned b hb o e).2, w'⟩
    cases b with
    | false =>
      rw [if_neg Bool.false_ne_true] at q9 ⊢
      exact fin J9 q9
    | true =>
      rw [if_pos rfl] at q9 ⊢
      refine thnF (pe.run _ u9 τ8 G9 _ J9 q9) fun z u10 ⟨yv, G10, J10, r10, cb, S0, n0, ey, hD10, hz10, nx⟩ => ?_
      subst ey
      obtain ⟨tk, rfl⟩ : ∃ t, z = Value.int cb t := r10
      exact addI_ok (X := X.blk u3 G3 scope ce fp) J10 hD10 hz10 fun u11 J11 => fin J11 nx
end
end FF
set_option Elab.async false
set_option linter.all false
set_option maxRecDepth 100000
set_option maxHeartbeats 4000000
/-! the program: choices, missing -/
namespace FF
open PySem PySem.Spec PyProof.Rows L2
open GxR (TabB TabG Tabbed)
theorem CaseAt.le {R : Rg} {N : Addr → Prop} {C x : Addr} {H H1 : Hp} {fs : List Face} (h : CaseAt N C H x fs) (e : Le R H H1) (hW : ∀ a, R.W a → N a) : CaseAt N C H1 x fs := by
  obtain ⟨dx, l, xs, nx, nl, hx, hl, ra⟩ := h
  refine ⟨dx, l, xs, nx, nl, e.ext x _ (fun w => nx (hW x w)) hx, e.ext l _ (fun w => nl (hW l w)) hl, ?_⟩
  have r2 : DtA (fun a => R.W a) H (fs.map faceD) xs := faces_any ra
  exact faces_any (r2.le e fun a w => w)
theorem CaseAt.weak {N N' : Addr → Prop} {C x : Addr} {H : Hp} {fs : List Face} (h : CaseAt N C H x fs) (hN : ∀ a, N' a → N a) : CaseAt N' C H x fs := by
  obtain ⟨dx, l, xs, nx, nl, r⟩ := h
  exact ⟨dx, l, xs, fun z => nx (hN _ z), fun z => nl (hN _ z), r⟩
theorem CaseAt.rt {N : Addr → Prop} {C x : Addr} {T : List Addr} {H : Hp} {fs : List Face} (h : CaseAt N C H x fs) (ok : (Rt T).I H) : CaseAt (fun a => a ∈ T) C H x fs := by
  obtain ⟨dx, l, xs, _, _, hx, hl, r⟩ := h
  refine ⟨dx, l, xs, fun z => ?_, fun z => ?_, hx, hl, r⟩
  · obtain ⟨ps, e, _⟩ := ok x z
    rw [hx] at e
    cases e
  · obtain ⟨ps, e, _⟩ := ok l z
    rw [hl] at e
    cases e
theorem e_faces {R : Rg} {σ : L2.St} {H : Hp} {N N' : Addr → Prop} {C x : Addr} {i : Nat} {fs : List Face} (hσ : σ[i]? = some (some (.ref x))) (c : CaseAt N C H x fs) (hW : ∀ a, R.W a → N a) (nk : Nk R N' H) : Ev R (tMeth C "faces" (sp_faces C) [] E0 (tVar i) tNil) σ H N' (facesD fs) := fun H1 e Q q => by
  have c1 := c.le e hW
  obtain ⟨dx, l, xs, nx, nl, hx, hl, ra⟩ := id c1
  refine ⟨_, hσ, x, dx, _, rfl, hx, rfl, x, fs, rfl, c1.weak fun a z => z.elim, fun H' u e' r => ?_⟩
  exact q u H' (Le.of_ex e'.ex e.ok) (r.weak (nk.le e).domle)
def chosenD (cs : List (List Nat)) : PyData := .list (cs.map natsD)
theorem parts_len (t : List Int) : (partsI t).length ≤ t.length := by
  rw [← parts_clus _ t rfl, List.length_map]
  exact clusP_len t
def sp_choices (C : Addr) (T : List Addr) : Sp := fun vs H Q _ => ∃ (x : Addr) (v : V) (fs : List Face) (t : List Int), vs = [.ref x, v] ∧ CaseAt No C H x fs ∧ Dt No H (.list (t.map .int)) v ∧ fs.length ≤ 1000 ∧ t.length ≤ 1000 ∧ badAt t = none ∧ (Rt T).I H ∧
  ∀ u H', Le (Rt T) H H' → Dt (Dom H) H' (chosenD ((partsI t).map (havP fs))) u → Q u H'
abbrev r_choices (K : PySem.W.Frag) (C : Addr) (T : List Addr) : TS :=
    (tRet (tLc (iList K (tCall sp_partedN [] E0 (tCons (tVar 1) tNil))) (gName 2) tYes (tCall (sp_having T) [] E0 (tCons (tMeth C "faces" (sp_faces C) [] E0 (tVar 0) tNil) (tCons (tVar 2) tNil))) [2]))
section
variable {K : PySem.W.Frag} {C : Addr} {T : List Addr}
theorem rd_choices (vs : List V) (H : Hp) (Q : VK) (E : XK) (h : sp_choices C T vs H Q E) : r_choices K C T { nx := fun _ H' => Q .non H', rt := Q } (start ["case", "text", "cluster"] vs) H := by
  obtain ⟨x, v, fs, t, rfl, hc, hv, hf, hl, hb, ok, k⟩ := h
  have nW : ∀ a, (Rt T).W a → a ∈ T := fun a w => w
  have hc2 := hc.rt ok
  have hv2 : Dt (fun a => a ∈ T) H (.list (t.map .int)) v := hv.rt ok
  have hp : Ev (Rt T) (tCall sp_partedN [] E0 (tCons (tVar 1) tNil)) [some (.ref x), some v, none] H (Dom H) (.list ((partsI t).map fun c => .tuple (c.map .int))) := e_call (a_one (e_var rfl hv2 nW)) fun H1 vs e r Q q => by
    cases r with
    | cons r1 r2 =>
      cases r2
      exact ⟨_, t, rfl, r1.no, by omega, hb, fun u H' e' r' => q u H' (Le.of_ex e'.ex e.ok) (r'.weak ((Nk.dom ok).le e).domle)⟩
  have lp : ((partsI t).map fun c => PyData.tuple (c.map .int)).length = (partsI t).length := List.length_map ..
  refine s_retP (R := Rt T) (N := Dom H) (φp := fun d => d = chosenD ((partsI t).map (havP fs))) ((p_lcL (N0 := Dom H) (ds := (partsI t).map fun c => PyData.tuple (c.map .int)) (fun i o => o = some (natsD (havP fs ((partsI t).getD i [])))) hp (Nk.dom ok).sub (by rw [lp]; have := parts_len t; omega) (Nk.dom ok) (fun _ => rfl) fun i y u D H1 hD e1 nk hi r => ?_).imp fun d o => ?_) ok fun d u H2 e2 hd r => by subst hd; exact k u H2 e2 r
  · obtain ⟨c, hc', rfl⟩ : ∃ c, (partsI t)[i]? = some c ∧ y = .tuple (c.map .int) := by
      rw [List.getElem?_map] at hi
      cases e : (partsI t)[i]? with
      | none => rw [e] at hi; cases hi
      | some c => rw [e] at hi; exact ⟨c, rfl, (Option.some.inj hi).symm⟩
    have gd : (partsI t).getD i [] = c := by rw [List.getD_eq_getElem?_getD, hc']; rfl
    refine f_some ?_
    rw [gd]
    refine e_call (a_cons (N := fun a => a = D ∨ Dom H a) (e_faces rfl (hc2.le e1 nW) nW nk) (a_one (e_var rfl r fun a w => .inr ((Nk.dom ok).sub a w))) nk.sub) fun H2 vs e r2 Q q => ?_
    cases r2 with
    | cons q1 r2 => cases r2 with
      | cons q2 r2 =>
        cases r2
        exact ⟨_, _, fs, c, rfl, q1.no, q2.no, hf, e.ok, fun w H' e' r' => q w H' e' (r'.weak (nk.le e).domle)⟩
  · have q := out_det (f := fun _ => true) (g := fun i => natsD (havP fs ((partsI t).getD i []))) (by simpa using o)
    rw [q, List.filter_eq_self.2 (fun _ _ => rfl)]
    unfold chosenD
    rw [List.map_map]
    refine congrArg PyData.list (map_range fun i c hc => ?_)
    rw [List.getD_eq_getElem?_getD, hc]
    rfl
def sp_missing (C : Addr) (T : List Addr) : Sp := fun vs H Q _ => ∃ (x : Addr) (v : V) (fs : List Face) (t : List Int), vs = [.ref x, v] ∧ CaseAt No C H x fs ∧ Dt No H (.list (t.map .int)) v ∧ fs.length ≤ 1000 ∧ t.length ≤ 1000 ∧ badAt t = none ∧ (Rt T).I H ∧
  ∀ (u : V) (H' : Hp) (ns : List Int), Le (Rt T) H H' → ns.Pairwise (· < ·) → (∀ z : Int, z ∈ ns ↔ z ∈ t ∧ havP fs [z] = []) → Dt (Dom H) H' (.list (ns.map .int)) u → Q u H'
abbrev r_missing (w : World) (K : PySem.W.Frag) (C : Addr) (T : List Addr) : TS :=
    (tSeq (tDrop (tCall sp_refuseN [] E0 (tCons (tVar 1) tNil)))
    (tSeq (tAsg (tMeth C "faces" (sp_faces C) [] E0 (tVar 0) tNil) (gName 2))
    (tRet (tCB (rSortSet w) (tCons (tScI w (iList K (tVar 1)) (gName 3) (tNot (tTru K (tCall (sp_having T) [] E0 (tCons (tVar 2) (tCons (tTup (tCons (tVar 3) tNil)) tNil))))) (tVar 3) [3]) tNil)))))
/-- a set comprehension over a list that stands -/
theorem sc_list {w : World} {a : Addr} {xs : List V} {g : TG} {tt : TT} {te : TE} {vs : List Nat} {σ : L2.St} {H1 : Hp} {D : Addr} {Qd : Hp → Prop} (Pv : Nat → Hp → Prop) (h0 : Pv 0 (upd H1 D (SetO w D (fun _ => false) 0))) (hl : ∀ i H, i ≤ xs.length → Pv i H → SqL K H a xs)
    (hs : ∀ i x H, xs[i]? = some x → Pv i H → g x (wipe σ vs) H fun σ2 H2 => wipe σ2 vs = wipe σ vs ∧ tt σ2 H2 fun b H3 =>
      if b = true then te σ2 H3 fun y H4 => ∃ (c : Int) (S : Int → Bool) (n : Nat), y = .int c ∧ H4 D = some (SetO w D S n) ∧ n + 1 < scanBound ∧ Pv (i + 1) (upd H4 D (SetO w D (fun j => S j || decide (j = c)) (if S c = true then n else n + 1))) else Pv (i + 1) H3) (hd : ∀ H, Pv xs.length H → Qd H) :
    ∃ W : Nat → Nat → Hp → Prop, (∃ m, W 0 m (upd H1 D (SetO w D (fun _ => false) 0))) ∧ ∀ i m H, W i m H →
      ((Itl K a).stop i H ∧ Qd H) ∨ ((Itl K a).go i H ∧ ∃ Nx : Hp → Prop, (∀ H', Nx H' → ∃ m', m' < m ∧ W (i + 1) m' H') ∧ ∀ x H', (Itl K a).yld i H x H' → g x (wipe σ vs) H' fun σ2 H2 => wipe σ2 vs = wipe σ vs ∧ tt σ2 H2 fun b H3 =>
        if b = true then te σ2 H3 fun y H4 => ∃ (c : Int) (S : Int → Bool) (n : Nat), y = .int c ∧ H4 D = some (SetO w D S n) ∧ n + 1 < scanBound ∧ Nx (upd H4 D (SetO w D (fun j => S j || decide (j = c)) (if S c = true then n else n + 1))) else Nx H3) := by
  refine ⟨fun i m H => i + m = xs.length ∧ Pv i H, ⟨xs.length, Nat.zero_add _, h0⟩, ?_⟩
  rintro i m H ⟨e, p⟩
  have q := hl i H (by omega) p
  cases m with
  | zero =>
    obtain rfl : i = xs.length := by omega
    exact .inl ⟨⟨xs, q, Nat.le_refl _⟩, hd H p⟩
  | succ m =>
    have hlt : i < xs.length := by omega
    refine .inr ⟨⟨xs, xs[i], q, by simp [hlt]⟩, Pv (i + 1), fun H' p' => ⟨m, Nat.lt_succ_self _, by omega, p'⟩, ?_⟩
    rintro x H' ⟨rfl, y⟩
    exact hs i x _ (y xs q) p
theorem rd_missing {w : World} (vs : List V) (H : Hp) (Q : VK) (E : XK) (h : sp_missing C T vs H Q E) : r_missing w K C T { nx := fun _ H' => Q .non H', rt := Q } (start ["case", "text", "faces", "sign"] vs) H := by
  obtain ⟨x, v, fs, t, rfl, hc, hv, hf, hl, hb, ok, k⟩ := h
  have nW : ∀ a, (Rt T).W a → a ∈ T := fun a w => w
  have hc2 := hc.rt ok
  have hv2 : Dt (fun a => a ∈ T) H (.list (t.map .int)) v := hv.rt ok
  refine q_drop (R := Rt T) (N := No) (d := .none) (e_call (a_one (e_var rfl hv2 nW)) fun H1 vs e r Q q => ?_) ok fun H1 e1 => ?_
  · cases r with
    | cons r1 r2 =>
      cases r2
      exact ⟨_, t, rfl, r1.no, by omega, hb, fun H' e' => q .non H' (Le.of_ex e'.ex e.ok) .non⟩
  · refine q_asg (R := Rt T) (N := fun a => a ∈ T) (e_faces rfl (hc2.le e1 nW) nW (nk_rt e1.ok)) e1.ok fun vf H2 e2 rf => ?_
    obtain ⟨a, xs, rfl, na, hla, ra⟩ := (hv2.le (e1.trans e2) nW).listy
    rw [ra.ints] at hla
    refine ⟨_, rfl, a, rfl, ⟨_, SqL.of hla⟩, fun D hD => ?_⟩
    have l0 : Le (Rt T) H2 (upd H2 D (SetO w D (fun _ => false) 0)) := Le.new hD e2.ok
    have aT : ¬ (Rt T).W a := na
    have dT : ¬ (Rt T).W D := rt_not e2.ok hD
    refine sc_list (xs := t.map V.int) (fun i H' => Le (Rt T) H2 H' ∧ ∃ S n, H' D = some (SetO w D S n) ∧ n ≤ i ∧ ∀ z, S z = true ↔ z ∈ t.take i ∧ havP fs [z] = []) ⟨l0, _, 0, upd_same, Nat.le_refl _, fun z => ⟨fun q => absurd q (by decide), fun q => by simp at q⟩⟩ (fun i H' _ p => SqL.of (p.1.ext a _ aT hla)) (fun i y H' hi p => ?_) (fun H' p => ?_)
    · obtain ⟨l1, S, n, hS, hn, hz⟩ := p
      obtain ⟨z, hzi, rfl⟩ : ∃ z, t[i]? = some z ∧ y = .int z := by
        rw [List.getElem?_map] at hi
        cases e : t[i]? with
        | none => rw [e] at hi; cases hi
        | some z => rw [e] at hi; exact ⟨z, rfl, (Option.some.inj hi).symm⟩
      have hlt : i < t.length := (List.getElem?_eq_some_iff.1 hzi).1
      have stp : ∀ z', z' ∈ t.take (i + 1) ↔ z' ∈ t.take i ∨ z' = z := fun z' => by
        rw [List.take_succ, hzi]
        simp
      refine ⟨rfl, ?_⟩
      have te : EvT (Rt T) (tNot (tTru K (tCall (sp_having T) [] E0 (tCons (tVar 2) (tCons (tTup (tCons (tVar 3) tNil)) tNil))))) [some (.ref x), some (.ref a), some vf, some (.int z)] H' (!(!((havP fs [z]).map fun n : Nat => PyData.int (n : Int)).isEmpty)) := t_not (t_trul (N := Dom H') (e_call (a_cons (N := fun a => a ∈ T) (e_var rfl (rf.le l1 nW) nW) (a_one (e_tup (ds := [.int z]) (a_one (e_vi rfl)) nW (by show 1 ≤ 100000; decide))) nW) fun H3 vs e r Q q => ?_))
      · refine te H' (Le.refl l1.ok) _ fun H3 e3 => ?_
        have hS3 := e3.ext D _ dT hS
        by_cases c : havP fs [z] = []
        · rw [c]
          show if true = true then _ else _
          rw [if_pos rfl]
          refine ⟨_, rfl, z, S, n, rfl, hS3, ?_, (l1.trans e3).putT hD, _, _, upd_same, by split <;> omega, fun z' => ?_⟩
          · have : scanBound = 4096 := rfl
            omega
          · rw [Bool.or_eq_true, decide_eq_true_eq, hz, stp]
            constructor
            · rintro (⟨q1, q2⟩ | q)
              · exact ⟨.inl q1, q2⟩
              · exact ⟨.inr q, by rw [q]; exact c⟩
            · rintro ⟨q1 | q1, q2⟩
              · exact .inl ⟨q1, q2⟩
              · exact .inr q1
        · have c2 : (!(!((havP fs [z]).map fun n : Nat => PyData.int (n : Int)).isEmpty)) = false := by
            cases e : havP fs [z] with
            | nil => exact absurd e c
            | cons a l => rfl
          rw [c2, if_neg Bool.false_ne_true]
          refine ⟨l1.trans e3, S, n, hS3, by omega, fun z' => ?_⟩
          rw [hz, stp]
          constructor
          · rintro ⟨q1, q2⟩
            exact ⟨.inl q1, q2⟩
          · rintro ⟨q1 | q1, q2⟩
            · exact ⟨q1, q2⟩
            · rw [q1] at q2
              exact absurd q2 c
      · cases r with
        | cons q1 r2 => cases r2 with
          | cons q2 r2 =>
            cases r2
            exact ⟨_, _, fs, [z], rfl, q1.no, q2.no, hf, e.ok, fun w' H4 e' r' => q w' H4 e' (r'.weak fun a ⟨o, ho⟩ => by
              cases hq : H3 a with
              | none => rw [e.back a hq] at ho; cases ho
              | some o' => exact ⟨o', hq⟩)⟩
    · obtain ⟨l1, S, n, hS, hn, hz⟩ := p
      rw [List.length_map, List.take_length] at hz
      refine ⟨D, S, n, rfl, hS, fun ns p pw hm hp => ?_⟩
      have l2 : Le (Rt T) H' (upd H' p (.lst (ns.map V.int))) := Le.new hp l1.ok
      have l3 := ((e1.trans e2).trans l1).trans l2
      refine k _ _ ns l3 pw (fun z => (hm z).trans (hz z)) (.lst (fun ⟨o, e⟩ => ?_) upd_same (dta_ints ns))
      have := ((e1.trans e2).trans l1).back p hp
      rw [this] at e
      cases e
end
end FF
set_option Elab.async false
set_option linter.all false
set_option maxRecDepth 100000
set_option maxHeartbeats 2000000
/-! min of a list of data that can be compared -/
namespace FF
open PySem PySem.Spec PyProof.Rows L2
open Evl (Ex fresh_back)
open PySem.W (AlikeAll minD min_list_data reads_keeps)
def rMinU (K : PySem.W.Frag) : List V → Hp → VK → Prop := fun vs H Q => ∃ (a : Addr) (xs : List V) (d : PyData) (ds : List PyData), vs = [V.ref a] ∧ SqL K H a xs ∧ DpAll K H xs (d :: ds) ∧ AlikeAll (d :: ds) ∧ PyData.depthAll (d :: ds) ≤ 60 ∧
  ∀ (i : Nat) (v : V), xs[i]? = some v → (d :: ds)[i]? = some (minD d ds) → Q v H
theorem dpAll_get {K : PySem.W.Frag} {H : Hp} : ∀ {xs : List V} {ds : List PyData} {i : Nat} {v : V}, DpAll K H xs ds → xs[i]? = some v → ∃ d, ds[i]? = some d ∧ Dp K H v d
  | _, _, _, _, .nil, e => by simp at e
  | _, _, 0, v, .cons r _, e => by simp at e; subst e; exact ⟨_, rfl, r⟩
  | _, _, i + 1, v, .cons _ t, e => by
    obtain ⟨d, h1, h2⟩ := dpAll_get (i := i) (v := v) t (by simpa using e)
    exact ⟨d, by simpa using h1, h2⟩
section
variable {X : Cx}
theorem minD_mem : ∀ (ds : List PyData) (d : PyData), minD d ds ∈ d :: ds := by
  intro ds
  induction ds with
  | nil => intro d; exact List.mem_singleton.mpr rfl
  | cons y r ih =>
    intro d
    show minD (if PySem.W.dataLt y d then y else d) r ∈ d :: y :: r
    have h := ih (if PySem.W.dataLt y d then y else d)
    rcases List.mem_cons.mp h with q | q
    · rw [q]
      split
      · exact List.mem_cons_of_mem _ List.mem_cons_self
      · exact List.mem_cons_self
    · exact List.mem_cons_of_mem _ (List.mem_cons_of_mem _ q)
theorem cr_minU (hc : X.calm = true) (hu : X.A.units + 64 < cLine) : CallR X (.builtin "min") (rMinU X.K) := by
  intro pins s σ H vs us Q I r h
  obtain ⟨a, xs, d, ds, rfl, hs, hd, ha, hdp, q⟩ := h
  obtain ⟨its, rv, hl, hz⟩ := I.list hs
  rw [Vals.ref1 r]
  obtain ⟨as, hr⟩ := Dp.readsAll I (d :: ds) xs its hd rv
  refine min_list_data (I.ok.hd hc) hl.isList (vs := its.toArray) (x := d) (xs := ds) (as := as) (by simpa using hr) ha (by omega) fun i v h' tk bs hv hrd kp => ?_
  have hv' : its[i]? = some v := by simpa using hv
  have hi : i < xs.length := by
    rw [rv.length]
    exact (List.getElem?_eq_some_iff.mp hv').1
  obtain ⟨x, hx⟩ : ∃ x, xs[i]? = some x := ⟨_, List.getElem?_eq_getElem hi⟩
  obtain ⟨u, hu1, rxu⟩ := rv.get hx
  rw [hv'] at hu1
  cases hu1
  obtain ⟨e, he, hde⟩ := dpAll_get hd hx
  obtain ⟨bs2, hr2⟩ := Dp.reads I e x v hde rxu
  have hal : PySem.W.alike e (minD d ds) = true := ha.1 e (List.mem_of_getElem? he) _ (minD_mem ds d)
  have eq : e = minD d ds := PySem.W.alike_unique e (minD d ds) v bs2 bs hal (reads_keeps kp hr2) hrd
  exact ⟨x, H, I.kept kp, rxu, q i x hx (by rw [he, eq])⟩
end
section
variable {R : Rg} {K : PySem.W.Frag} {σ : L2.St} {H H' Hn : Hp} {N N' : Addr → Prop} {te : TE} {d : PyData}
theorem e_min {ds : List PyData} (h : Ev R te σ H N (.list (d :: ds))) (ha : AlikeAll (d :: ds)) (hd : PyData.depthAll (d :: ds) ≤ 60) : Ev R (tCB (rMinU K) (tCons te tNil)) σ H N (minD d ds) := fun H1 e Q q =>
  h H1 e _ fun v H2 e2 r => by
    obtain ⟨a, xs, rfl, na, hl, ra⟩ := r.listy
    refine ⟨a, xs, d, ds, rfl, SqL.of hl, ra.dp K, ha, hd, fun i v hv hi => ?_⟩
    obtain ⟨x, hx, rx⟩ := ra.getV hv
    rw [hi] at hx
    cases hx
    exact q v H2 e2 rx
end
end FF
set_option Elab.async false
set_option linter.all false
set_option maxRecDepth 100000
set_option maxHeartbeats 4000000
/-! the program: rows, the least of them -/
namespace FF
open PySem PySem.Spec PyProof.Rows L2
open PySem.W (AlikeAll minD dataLt alike alikeAll)
def oD : Option Nat → PyData
  | none => .none
  | some n => .int (n : Int)
def rowD (r : List (Option Nat)) : PyData := .list (r.map oD)
structure St4 where
  c : Int
  m : Int
  k : Int
  row : List (Option Nat)
def stD (s : St4) : PyData := .tuple [.int s.c, .int s.m, .int s.k, rowD s.row]
def b2n (b : Bool) : Int := if b = true then 1 else 0
def unlike (r : List (Option Nat)) (f : Option Nat) : Bool := !r.isEmpty && !decide (r.getLast? = some f)
def wants (f h : Option Nat) : Bool := h.isSome && !decide (h = f)
def longerP (ranks : List Int) (s : St4) (f h : Option Nat) : St4 where
  c := s.c + b2n (unlike s.row f)
  m := s.m + b2n (f.isSome && wants f h)
  k := s.k + (match f with | some n => ranks.getD n 0 | none => 0)
  row := s.row ++ [f]
theorem eqv_oD (a b : Option Nat) : PyData.eqv (oD a) (oD b) = decide (a = b) := by
  cases a <;> cases b
  · rfl
  · rfl
  · rfl
  · rw [oD, oD, eqv_int, Bool.eq_iff_iff, decide_eq_true_iff, decide_eq_true_iff, Option.some.injEq]
    omega
theorem shaped_oD (a : Option Nat) : SeqAt.shaped (oD a) = true := by cases a <;> rfl
theorem isNo_oD (a : Option Nat) : isNo (oD a) = a.isNone := by cases a <;> rfl
abbrev ipAdd : TIp := ipI fun i j => i + j
section
variable {R : Rg} {K : PySem.W.Frag} {σ : L2.St} {H H' : Hp} {N N' : Addr → Prop} {D : Ends} {tz : TS} {t : TT} {te ta tb : TE}
/-- if t: x += 1 -/
theorem q_inc {i : Nat} {z : Int} {b : Bool} (h : EvT R t σ H b) (hσ : σ[i]? = some (some (.int z))) (ok : R.I H) (q : ∀ H2, Le R H H2 → tz D (σ.set i (some (.int (z + b2n b)))) H2) : tSeq (tIfS t (tAug i (tC (.int 1)) ipAdd) tNext) tz D σ H := by
  refine q_if h ok (fun c H2 e2 => ?_) (fun c H2 e2 => ?_)
  · subst c
    exact ⟨_, hσ, z, 1, rfl, rfl, q H2 e2⟩
  · subst c
    have e : σ.set i (some (.int (z + b2n false))) = σ := by
      have hz : z + b2n false = z := Int.add_zero z
      rw [hz]
      obtain ⟨hi, e⟩ := List.getElem?_eq_some_iff.1 hσ
      rw [← e]
      exact List.set_getElem_self hi
    have := q H2 e2
    rw [e] at this
    exact this
theorem s_inc {i : Nat} {z : Int} {b : Bool} (h : EvT R t σ H b) (hσ : σ[i]? = some (some (.int z))) (ok : R.I H) (q : ∀ H2, Le R H H2 → D.nx (σ.set i (some (.int (z + b2n b)))) H2) : tIfS t (tAug i (tC (.int 1)) ipAdd) tNext D σ H := q_inc (tz := tNext) (D := D) h hσ ok q
theorem opts_any {r : List (Option Nat)} {vs : List V} (h : DtA N H (r.map oD) vs) : DtA N' H (r.map oD) vs := by
  induction r generalizing vs with
  | nil => cases h; exact .nil
  | cons a r ih => cases h with
    | cons x t => exact .cons (by cases a <;> cases x <;> constructor) (ih t)
/-- r + r' -/
theorem e_catO {Na Nb : Addr → Prop} {r r' : List (Option Nat)} (ha : Ev R ta σ H Na (rowD r)) (hb : Ev R tb σ H Nb (rowD r')) (hW : ∀ a, R.W a → Na a) (hz : r.length + r'.length ≤ 100000) (nk : Nk R N H) : Ev R (tOp (rAddU K) ta tb) σ H N (rowD (r ++ r')) := fun H1 e Q q =>
  ha H1 e _ fun u H2 e2 ru => hb H2 (e.trans e2) _ fun v H3 e3 rv => by
    obtain ⟨a1, x1, rfl, n1, h1, r1⟩ := (ru.le e3 hW).listy
    obtain ⟨a2, x2, rfl, n2, h2, r2⟩ := rv.listy
    refine .inr (.inr (.inl ⟨_, _, _, _, rfl, rfl, h1, h2, ?_, fun p hp => ?_⟩))
    · rw [r1.length, r2.length, List.length_map, List.length_map]
      exact Evl.sz_of hz
    · have rr : DtA N H3 ((r ++ r').map oD) (x1 ++ x2) := by
        rw [List.map_append]
        exact (opts_any r1).append (opts_any r2)
      obtain ⟨l3, d3⟩ := new_l nk ((e.trans e2).trans e3) hp rr
      exact q _ _ ((e2.trans e3).trans l3) d3
theorem e_neO {a b : Option Nat} (ha : Ev R ta σ H N (oD a)) (hb : Ev R tb σ H N (oD b)) (hW : ∀ a, R.W a → N a) : Ev R (tOp (rNeD K) ta tb) σ H N (.bool (!decide (a = b))) := (e_ne ha hb hW (shaped_oD a) (shaped_oD b)).is (by rw [eqv_oD])
theorem e_neg1 : Ev R (tUn (rU fun i => .int (-i)) (tC (.int 1))) σ H N (.int (-1)) := fun H1 e Q q => ⟨1, rfl, q _ H1 (Le.refl e.ok) (.int _)⟩
theorem e_var0 {i : Nat} {v : V} {a : Option Nat} (h : σ[i]? = some (some v)) (r : Dt N' H (oD a) v) : Ev R (tVar i) σ H N (oD a) := fun H1 e Q q => ⟨v, h, q v H1 (Le.refl e.ok) (by cases a <;> cases r <;> constructor)⟩
end
abbrev r_longer (K : PySem.W.Frag) : TS :=
    (tSeq (tAsg (tVar 0) (gTup K 4 (gCons (gName 4) (gCons (gName 5) (gCons (gName 6) (gCons (gName 7) gNil))))))
    (tSeq (tIfS (tAnd (tTru K (tVar 7)) (tTest (tOp (rNeD K) (tOp (rIx K) (tVar 7) (tUn (rU fun i => .int (-i)) (tC (.int 1)))) (tVar 1)))) (tAug 4 (tC (.int 1)) ipAdd) tNext)
    (tSeq (tIfS (tTest (tOp (rIsN true) (tVar 1) (tC .non))) (tSeq (tAug 6 (tOp (rIx K) (tVar 3) (tVar 1)) ipAdd) (tIfS (tAnd (tTest (tOp (rIsN true) (tVar 2) (tC .non))) (tTest (tOp (rNeD K) (tVar 2) (tVar 1)))) (tAug 5 (tC (.int 1)) ipAdd) tNext)) tNext)
    (tRet (tTup (tCons (tVar 4) (tCons (tVar 5) (tCons (tVar 6) (tCons (tOp (rAddU K) (tVar 7) (tLst (tCons (tVar 1) tNil))) tNil)))))))))
def sp_longer : Sp := fun vs H Q _ => ∃ (va vf vh vr : V) (s : St4) (f h : Option Nat) (ranks : List Int), vs = [va, vf, vh, vr] ∧ Dt No H (stD s) va ∧ Dt No H (oD f) vf ∧ Dt No H (oD h) vh ∧ Dt No H (.list (ranks.map .int)) vr ∧ (∀ n, f = some n → n < ranks.length) ∧ s.row.length ≤ 1000 ∧
  ∀ u H', Le R0 H H' → Dt (Dom H) H' (stD (longerP ranks s f h)) u → Q u H'
theorem rd_longer {K : PySem.W.Frag} (vs : List V) (H : Hp) (Q : VK) (E : XK) (hh : sp_longer vs H Q E) : r_longer K { nx := fun _ H' => Q .non H', rt := Q } (start ["ahead", "face", "face_had", "ranks", "changed", "moved", "ranked", "row"] vs) H := by
  obtain ⟨va, vf, vh, vr, s, f, h, ranks, rfl, ha, hf, hh, hr, hn, hl, k⟩ := hh
  have nW : ∀ (N : Addr → Prop) (a : Addr), R0.W a → N a := fun _ _ z => z.elim
  obtain ⟨a0, xs, rfl, h0, ra⟩ := ha.tupy
  cases ra with
  | cons r1 ra => cases ra with
    | cons r2 ra => cases ra with
      | cons r3 ra => cases ra with
        | cons r4 ra =>
          cases ra; cases r1; cases r2; cases r3
          rename_i vrow
          refine ⟨_, rfl, a0, _, rfl, SqT.of h0, rfl, _, _, rfl, _, _, rfl, _, _, rfl, _, _, rfl, rfl, ?_⟩
          -- from here on: the row's facts
          have evRow : ∀ {σ : L2.St} {H1 : Hp}, σ[7]? = some (some vrow) → Le R0 H H1 → Ev R0 (tVar 7) σ H1 No (rowD s.row) := fun hσ e => e_var hσ (r4.le e (nW _)) (nW _)
          have fin : ∀ (c m r : Int) (H1 : Hp), Le R0 H H1 → c = (longerP ranks s f h).c → m = (longerP ranks s f h).m → r = (longerP ranks s f h).k →
              (tRet (tTup (tCons (tVar 4) (tCons (tVar 5) (tCons (tVar 6) (tCons (tOp (rAddU K) (tVar 7) (tLst (tCons (tVar 1) tNil))) tNil)))))) { nx := fun _ H' => Q .non H', rt := Q } [some (.ref a0), some vf, some vh, some vr, some (.int c), some (.int m), some (.int r), some vrow] H1 := fun c m r H1 e1 ec em er => by
            have nk : Nk R0 (Dom H) H1 := ⟨nW _, fun b ⟨o, hb⟩ e => by rw [e1.back _ e] at hb; cases hb⟩
            refine s_ret (R := R0) (N := Dom H) (d := stD (longerP ranks s f h)) ((e_tup (ds := [.int c, .int m, .int r, rowD (s.row ++ [f])]) (a_cons (e_vi rfl) (a_cons (e_vi rfl) (a_cons (e_vi rfl) (a_one ?_) (nW _)) (nW _)) (nW _)) (nW _) (by show 4 ≤ 100000; decide)).is (by rw [ec, em, er]; rfl)) trivial fun u H2 e2 ru => k u H2 (e1.trans e2) ru
            refine e_catO (Na := No) (Nb := No) (evRow rfl e1) ((e_lst (ds := [oD f]) (a_one (e_var0 (N' := No) rfl (hf.le e1 (nW _)))) nk0 (by show 1 ≤ 100000; decide)).is rfl) (nW _) (by show s.row.length + 1 ≤ 100000; omega) nk
          have ev1 : ∀ {σ : L2.St} {H1 : Hp}, σ[1]? = some (some vf) → Le R0 H H1 → Ev R0 (tVar 1) σ H1 No (oD f) := fun hσ e => e_var0 (N' := No) hσ (hf.le e (nW _))
          have ev2 : ∀ {σ : L2.St} {H1 : Hp}, σ[2]? = some (some vh) → Le R0 H H1 → Ev R0 (tVar 2) σ H1 No (oD h) := fun hσ e => e_var0 (N' := No) hσ (hh.le e (nW _))
          have l0 : Le R0 H H := Le.refl trivial
          have t1 : EvT R0 (tAnd (tTru K (tVar 7)) (tTest (tOp (rNeD K) (tOp (rIx K) (tVar 7) (tUn (rU fun i => .int (-i)) (tC (.int 1)))) (tVar 1)))) [some (.ref a0), some vf, some vh, some vr, some (.int s.c), some (.int s.m), some (.int s.k), some vrow] H (unlike s.row f) := by
            refine (t_and (a := !(s.row.map oD).isEmpty) (b := !decide (s.row.getLast? = some f)) (t_trul (evRow rfl l0)) fun c => ?_).is (by unfold unlike; rw [List.isEmpty_map])
            have ne : s.row ≠ [] := fun e => by rw [e] at c; cases c
            obtain ⟨r', l, er⟩ : ∃ r' l, s.row = r' ++ [l] := ⟨_, _, (List.dropLast_concat_getLast ne).symm⟩
            have hx : atI (s.row.map oD) (-1) = some (oD l) := by
              rw [er, List.map_append]
              exact atI_last _ _
            have hl : s.row.getLast? = some l := by rw [er]; simp
            refine t_cmp ((e_neO (N := No) (e_ixl (N := No) (evRow rfl l0) e_neg1 (nW _) hx) (ev1 rfl l0) (nW _)).is ?_)
            rw [hl]
            exact congrArg (fun b => PyData.bool (!b)) (decide_eq_decide.2 ⟨fun e => by rw [e], fun e => Option.some.inj e⟩)
          refine q_inc (R := R0) (i := 4) (z := s.c) t1 rfl trivial fun H1 e1 => ?_
          show tSeq (tIfS (tTest (tOp (rIsN true) (tVar 1) (tC .non))) _ tNext) _ _ [some (.ref a0), some vf, some vh, some vr, some (.int (s.c + b2n (unlike s.row f))), some (.int s.m), some (.int s.k), some vrow] H1
          refine q_if (R := R0) (b := f.isSome) ((t_cmp (e_isN (N := No) (neg := true) (ev1 rfl e1))).is (by rw [isNo_oD]; cases f <;> rfl)) trivial (fun c H2 e2 => ?_) (fun c H2 e2 => ?_)
          · obtain ⟨n, rfl⟩ := Option.isSome_iff_exists.1 c
            have hnl := hn n rfl
            have e02 := e1.trans e2
            have hg : ranks.getD n 0 = ranks[n] := by rw [List.getD_eq_getElem?_getD, List.getElem?_eq_getElem hnl]; rfl
            have evx : Ev R0 (tOp (rIx K) (tVar 3) (tVar 1)) [some (.ref a0), some vf, some vh, some vr, some (.int (s.c + b2n (unlike s.row (some n)))), some (.int s.m), some (.int s.k), some vrow] H2 No (.int (ranks.getD n 0)) := e_ixl (N := No) (e_var rfl (hr.le e02 (nW _)) (nW _)) (ev1 rfl e02) (nW _) (by rw [hg]; exact atI_ints (List.getElem?_eq_getElem hnl))
            refine ⟨_, rfl, evx H2 (Le.refl trivial) _ fun y H3 e3 ry => ?_⟩
            cases ry
            refine ⟨s.k, ranks.getD n 0, rfl, rfl, ?_⟩
            have e03 := e02.trans e3
            refine s_inc (R := R0) (i := 5) (z := s.m) (b := wants (some n) h) ((t_and (a := h.isSome) (b := !decide (h = some n)) ((t_cmp (e_isN (N := No) (neg := true) (ev2 rfl e03))).is (by rw [isNo_oD]; cases h <;> rfl)) fun _ => t_cmp (e_neO (N := No) (ev2 rfl e03) (ev1 rfl e03) (nW _))).is rfl) rfl trivial fun H4 e4 => ?_
            exact fin _ _ _ H4 (e03.trans e4) rfl rfl rfl
          · obtain rfl : f = none := by cases f with
              | none => rfl
              | some n => cases c
            exact fin _ _ _ H2 (e1.trans e2) rfl (Int.add_zero _).symm (Int.add_zero _).symm
end FF
set_option Elab.async false
set_option linter.all false
set_option maxRecDepth 100000
set_option maxHeartbeats 4000000
/-! the program: the least of rows that are one cluster longer -/
namespace FF
open PySem PySem.Spec PyProof.Rows L2
open PySem.W (AlikeAll minD dataLt alike alikeAll)
def minS (a : St4) (l : List St4) : St4 := l.foldl (fun x y => if dataLt (stD y) (stD x) then y else x) a
theorem minD_st (a : St4) (l : List St4) : minD (stD a) (l.map stD) = stD (minS a l) := by
  unfold minD minS
  induction l generalizing a with
  | nil => rfl
  | cons b l ih =>
    rw [List.map_cons, List.foldl_cons, List.foldl_cons, ← ih]
    congr 1
    split <;> rfl
theorem minS_mem (a : St4) (l : List St4) : minS a l ∈ a :: l := by
  unfold minS
  induction l generalizing a with
  | nil => exact List.mem_singleton.2 rfl
  | cons b l ih =>
    rw [List.foldl_cons]
    have h := ih (if dataLt (stD b) (stD a) then b else a)
    rcases List.mem_cons.1 h with q | q
    · rw [q]
      split
      · exact List.mem_cons_of_mem _ (List.mem_cons_self ..)
      · exact List.mem_cons_self ..
    · exact List.mem_cons_of_mem _ (List.mem_cons_of_mem _ q)
def pat (s : St4) : List Bool := s.row.map Option.isNone
theorem alike_opts : ∀ {r r' : List (Option Nat)}, r.map Option.isNone = r'.map Option.isNone → alikeAll (r.map oD) (r'.map oD) = true
  | [], _, _ => by rw [List.map_nil]; unfold alikeAll; rfl
  | _ :: _, [], h => by cases h
  | a :: r, b :: r', h => by
    rw [List.map_cons, List.map_cons, List.cons.injEq] at h
    rw [List.map_cons, List.map_cons, alikeAll, Bool.and_eq_true]
    refine ⟨?_, alike_opts h.2⟩
    cases a <;> cases b
    · rfl
    · cases h.1
    · cases h.1
    · rfl
theorem alike_st {s t : St4} (h : pat s = pat t) : alike (stD s) (stD t) = true := by
  unfold stD rowD
  rw [alike, alikeAll, alikeAll, alikeAll, alikeAll, alike, alike, alike, alike]
  rw [alike_opts h]
  rfl
theorem ok_st {s : St4} (h : s.row.length ≤ 1000) : okD 2 (stD s) := by
  refine ⟨by show 4 ≤ 40000; decide, fun x hx => ?_⟩
  simp only [List.mem_cons, List.not_mem_nil, or_false] at hx
  rcases hx with rfl | rfl | rfl | rfl
  · exact ok_int _ _
  · exact ok_int _ _
  · exact ok_int _ _
  · refine ⟨by rw [List.length_map]; omega, fun y hy => ?_⟩
    obtain ⟨o, _, rfl⟩ := List.mem_map.1 hy
    cases o <;> trivial
theorem depth_all {n : Nat} : ∀ {ds : List PyData}, (∀ d ∈ ds, d.depth ≤ n) → PyData.depthAll ds ≤ n
  | [], _ => Nat.zero_le _
  | d :: ds, h => by
    rw [PyData.depthAll]
    have h1 := h d (List.mem_cons_self ..)
    have h2 := depth_all (ds := ds) fun x hx => h x (List.mem_cons_of_mem _ hx)
    omega
/-- rows of one pattern -/
structure Rws (p : List Bool) (l : List St4) : Prop where
  pt : ∀ s ∈ l, pat s = p
  ln : p.length ≤ 1000
  few : l.length ≤ 1000
theorem Rws.row {p : List Bool} {l : List St4} (h : Rws p l) {s : St4} (hs : s ∈ l) : s.row.length = p.length := by
  rw [← h.pt s hs]
  unfold pat
  rw [List.length_map]
theorem Rws.alike {p : List Bool} {l : List St4} (h : Rws p l) : AlikeAll (l.map stD) := by
  refine ⟨fun x hx y hy => ?_, fun x hx => ?_⟩
  · obtain ⟨s, hs, rfl⟩ := List.mem_map.1 hx
    obtain ⟨t, ht, rfl⟩ := List.mem_map.1 hy
    exact alike_st ((h.pt s hs).trans (h.pt t ht).symm)
  · obtain ⟨s, hs, rfl⟩ := List.mem_map.1 hx
    exact fun e => nomatch e
theorem Rws.depth {p : List Bool} {l : List St4} (h : Rws p l) : PyData.depthAll (l.map stD) ≤ 60 := by
  refine Nat.le_trans (depth_all (n := 2) fun d hd => ?_) (by decide)
  obtain ⟨s, hs, rfl⟩ := List.mem_map.1 hd
  exact (ok_lay 2 _ (ok_st (by rw [h.row hs]; exact h.ln))).2
def sp_least_longer : Sp := fun vs H Q _ => ∃ (vl vf vh vr : V) (a : St4) (l : List St4) (f h : Option Nat) (ranks : List Int) (p : List Bool), vs = [vl, vf, vh, vr] ∧ Dt No H (.list ((a :: l).map stD)) vl ∧ Dt No H (oD f) vf ∧ Dt No H (oD h) vh ∧ Dt No H (.list (ranks.map .int)) vr ∧ (∀ n, f = some n → n < ranks.length) ∧ Rws p (a :: l) ∧ p.length < 1000 ∧
  ∀ u H', Le R0 H H' → Dt (Dom H) H' (stD (minS (longerP ranks a f h) (l.map fun s => longerP ranks s f h))) u → Q u H'
abbrev r_least_longer (K : PySem.W.Frag) : TS :=
    (tRet (tCB (rMinU K) (tCons (tLc (iList K (tVar 0)) (gName 4) tYes (tCall sp_longer [] E0 (tCons (tVar 4) (tCons (tVar 1) (tCons (tVar 2) (tCons (tVar 3) tNil))))) [4]) tNil)))
theorem longer_rws {ranks : List Int} {f h : Option Nat} {p : List Bool} {l : List St4} (r : Rws p l) (hp : p.length < 1000) : Rws (p ++ [f.isNone]) (l.map fun s => longerP ranks s f h) := by
  refine ⟨fun s hs => ?_, by rw [List.length_append]; show p.length + 1 ≤ 1000; omega, by rw [List.length_map]; exact r.few⟩
  obtain ⟨t, ht, rfl⟩ := List.mem_map.1 hs
  unfold pat longerP
  rw [List.map_append]
  exact congrArg (· ++ [f.isNone]) (r.pt t ht)
section
variable {K : PySem.W.Frag}
theorem st_at {l : List St4} {i : Nat} {x : PyData} (h : (l.map stD)[i]? = some x) : ∃ s, l[i]? = some s ∧ x = stD s := by
  rw [List.getElem?_map] at h
  cases e : l[i]? with
  | none => rw [e] at h; cases h
  | some s => rw [e] at h; exact ⟨s, rfl, (Option.some.inj h).symm⟩
theorem rd_least_longer (vs : List V) (H : Hp) (Q : VK) (E : XK) (hh : sp_least_longer vs H Q E) : r_least_longer K { nx := fun _ H' => Q .non H', rt := Q } (start ["least", "face", "face_had", "ranks", "ahead"] vs) H := by
  obtain ⟨vl, vf, vh, vr, a, l, f, h, ranks, p, rfl, hl, hf, hh, hr, hn, rw_, hp, k⟩ := hh
  have nW : ∀ (N : Addr → Prop) (a : Addr), R0.W a → N a := fun _ _ z => z.elim
  have nk : Nk R0 (Dom H) H := Nk.dom trivial
  have ll : ((a :: l).map stD).length = (a :: l).length := List.length_map ..
  have few := rw_.few
  refine s_ret (R := R0) (N := Dom H) (d := stD (minS (longerP ranks a f h) (l.map fun s => longerP ranks s f h))) ?_ trivial fun u H2 e2 ru => k u H2 e2 ru
  have comp : Ev R0 (tLc (iList K (tVar 0)) (gName 4) tYes (tCall sp_longer [] E0 (tCons (tVar 4) (tCons (tVar 1) (tCons (tVar 2) (tCons (tVar 3) tNil))))) [4]) [some vl, some vf, some vh, some vr, none] H (Dom H) (.list (((a :: l).map fun s => longerP ranks s f h).map stD)) := by
    refine EvP.ev ((p_lcL (N0 := No) (ds := (a :: l).map stD) (fun i o => o = some (stD (longerP ranks ((a :: l).getD i a) f h))) (e_var rfl hl (nW _)) (nW _) (by rw [ll]; omega) nk (fun _ => rfl) fun i x v D H1 hD e1 nk1 hx r => ?_).imp fun d o => ?_)
    · obtain ⟨s, hs, rfl⟩ := st_at hx
      have gd : (a :: l).getD i a = s := by rw [List.getD_eq_getElem?_getD, hs]; rfl
      refine f_some ?_
      rw [gd]
      refine fun H2 e2 Q q => ⟨v, rfl, vf, rfl, vh, rfl, vr, rfl, v, vf, vh, vr, s, f, h, ranks, rfl, (r.le e2 (nW _)).no, hf.le (e1.trans e2) (nW _), hh.le (e1.trans e2) (nW _), hr.le (e1.trans e2) (nW _), hn, ?_, fun u H3 e3 ru => q u H3 e3 (ru.weak (nk1.le e2).domle)⟩
      rw [rw_.row (List.mem_of_getElem? hs)]
      exact rw_.ln
    · have q := out_det (f := fun _ => true) (g := fun i => stD (longerP ranks ((a :: l).getD i a) f h)) (by simpa using o)
      rw [q, List.filter_eq_self.2 (fun _ _ => rfl), List.map_map]
      exact congrArg PyData.list (map_range (l := a :: l) (g := fun i => stD (longerP ranks ((a :: l).getD i a) f h)) (f := stD ∘ fun s => longerP ranks s f h) fun i s hs => by rw [List.getD_eq_getElem?_getD, hs]; rfl)
  have rr := longer_rws (ranks := ranks) (f := f) (h := h) rw_ hp
  have q := e_min (K := K) (d := stD (longerP ranks a f h)) (ds := (l.map fun s => longerP ranks s f h).map stD) comp rr.alike rr.depth
  rw [minD_st] at q
  exact q
/-! ### what a row may tell -/
def tell (fs : List Nat) : List (Option Nat) := if fs = [] then [none] else fs.map some
theorem tell_nats {fs : List Nat} (h : fs ≠ []) : (tell fs).map oD = fs.map fun n : Nat => PyData.int (n : Int) := by
  unfold tell
  rw [if_neg h, List.map_map]
  rfl
theorem tell_ne (fs : List Nat) : tell fs ≠ [] := by
  unfold tell
  split
  · simp
  · rename_i h
    simpa using h
theorem tell_none {fs : List Nat} {f : Option Nat} (h : f ∈ tell fs) : f.isNone = fs.isEmpty := by
  unfold tell at h
  split at h
  · rename_i e
    rw [e, List.mem_singleton.1 h]
    rfl
  · rename_i e
    obtain ⟨n, _, rfl⟩ := List.mem_map.1 h
    cases fs with
    | nil => exact absurd rfl e
    | cons a l => rfl
def sp_tellable : Sp := fun vs H Q _ => ∃ (v : V) (fs : List Nat), vs = [v] ∧ Dt No H (natsD fs) v ∧ ∀ u H', Le R0 H H' → Dt No H' (.list ((tell fs).map oD)) u → Q u H'
abbrev r_tellable (K : PySem.W.Frag) : TS := (tRet (tOrT K (tVar 0) (tLst (tCons (tC .non) tNil))))
theorem rd_tellable (vs : List V) (H : Hp) (Q : VK) (E : XK) (hh : sp_tellable vs H Q E) : r_tellable K { nx := fun _ H' => Q .non H', rt := Q } (start ["faces"] vs) H := by
  obtain ⟨v, fs, rfl, hv, k⟩ := hh
  obtain ⟨a, xs, rfl, na, ha, ra⟩ := hv.listy
  refine ⟨_, rfl, !xs.isEmpty, .inl ⟨xs, SqL.of ha, rfl⟩, ?_⟩
  by_cases e : fs = []
  · subst e
    cases ra
    rw [if_neg (by decide)]
    refine ⟨by show 1 ≤ sizeLine; decide, fun p hp => ?_⟩
    exact k _ _ (Le.new hp trivial) (.lst (fun z => z) upd_same (.cons .non .nil))
  · have hx : (!xs.isEmpty) = true := by
      cases fs with
      | nil => exact absurd rfl e
      | cons n l => cases ra; rfl
    rw [if_pos hx]
    refine k _ _ (Le.refl trivial) ?_
    rw [tell_nats e]
    exact hv
end
end FF
set_option Elab.async false
set_option linter.all false
set_option maxRecDepth 100000
set_option maxHeartbeats 4000000
/-! walks over two lists at once -/
namespace FF
open PySem PySem.Spec PyProof.Rows L2
theorem for_zz {K : PySem.W.Frag} {a b : Addr} {xs ys : List V} {n : Nat} {g : TG} {tb : TS} {D : Ends} {σ : L2.St} {H : Hp} (hn : n = min xs.length ys.length) (Pv : Nat → L2.St → Hp → Prop) (h0 : Pv 0 σ H)
    (hl : ∀ i σ H, i ≤ n → Pv i σ H → SqL K H a xs ∧ SqL K H b ys)
    (hs : ∀ i x y σ H T, xs[i]? = some x → ys[i]? = some y → Pv i σ H → H T = none → g (.ref T) σ (upd H T (.tup [x, y])) fun σ2 H2 => tb { nx := Pv (i + 1), rt := D.rt, bk := D.nx, ct := Pv (i + 1) } σ2 H2)
    (hd : ∀ σ H, Pv n σ H → D.nx σ H) :
    ∃ W : Nat → Nat → L2.St → Hp → Prop, (∃ m, W 0 m σ H) ∧ ∀ (i m : Nat) (σ : L2.St) (H : Hp), W i m σ H →
      ((Itz K a b).stop i H ∧ D.nx σ H) ∨ ((Itz K a b).go i H ∧ ∃ N : L2.St → Hp → Prop, (∀ σ' H', N σ' H' → ∃ m', m' < m ∧ W (i + 1) m' σ' H') ∧ ∀ x H', (Itz K a b).yld i H x H' → g x σ H' fun σ2 H2 => tb { nx := N, rt := D.rt, bk := D.nx, ct := N } σ2 H2) := by
  refine ⟨fun i m σ H => i + m = n ∧ Pv i σ H, ⟨n, Nat.zero_add _, h0⟩, ?_⟩
  rintro i m σ H ⟨e, p⟩
  have hi : i ≤ n := by omega
  obtain ⟨S1, S2⟩ := hl i σ H hi p
  cases m with
  | zero =>
    obtain rfl : i = n := by omega
    exact .inl ⟨⟨xs, ys, S1, S2, by omega⟩, hd σ H p⟩
  | succ m =>
    have hx : xs[i]? = some (xs[i]'(by omega)) := List.getElem?_eq_getElem _
    have hy : ys[i]? = some (ys[i]'(by omega)) := List.getElem?_eq_getElem _
    refine .inr ⟨⟨xs, ys, _, _, S1, S2, hx, hy⟩, Pv (i + 1), fun σ' H' p' => ⟨m, Nat.lt_succ_self _, by omega, p'⟩, ?_⟩
    rintro x H' ⟨T, x1, y1, rfl, hT, rfl, f1, f2⟩
    exact hs i x1 y1 σ H T (f1 xs S1) (f2 ys S2) p hT
theorem lc_zz {K : PySem.W.Frag} {a b : Addr} {xs ys : List V} {n : Nat} {g : TG} {tt : TT} {te : TE} {vs : List Nat} {σ : L2.St} {H1 : Hp} {D : Addr} {Qd : Hp → Prop} (hn : n = min xs.length ys.length) (Pv : Nat → Hp → Prop) (h0 : Pv 0 (upd H1 D (.lst [])))
    (hl : ∀ i H, i ≤ n → Pv i H → SqL K H a xs ∧ SqL K H b ys)
    (hs : ∀ i x y H T, xs[i]? = some x → ys[i]? = some y → Pv i H → H T = none → g (.ref T) (wipe σ vs) (upd H T (.tup [x, y])) fun σ2 H2 => wipe σ2 vs = wipe σ vs ∧ tt σ2 H2 fun b H3 =>
      if b = true then te σ2 H3 fun y H4 => ∃ acc, H4 D = some (.lst acc) ∧ acc.length < sizeLine ∧ Pv (i + 1) (upd H4 D (.lst (acc ++ [y]))) else Pv (i + 1) H3) (hd : ∀ H, Pv n H → Qd H) :
    ∃ W : Nat → Nat → Hp → Prop, (∃ m, W 0 m (upd H1 D (.lst []))) ∧ ∀ i m H, W i m H →
      ((Itz K a b).stop i H ∧ Qd H) ∨ ((Itz K a b).go i H ∧ ∃ Nx : Hp → Prop, (∀ H', Nx H' → ∃ m', m' < m ∧ W (i + 1) m' H') ∧ ∀ x H', (Itz K a b).yld i H x H' → g x (wipe σ vs) H' fun σ2 H2 => wipe σ2 vs = wipe σ vs ∧ tt σ2 H2 fun b H3 =>
        if b = true then te σ2 H3 fun y H4 => ∃ acc, H4 D = some (.lst acc) ∧ acc.length < sizeLine ∧ Nx (upd H4 D (.lst (acc ++ [y]))) else Nx H3) := by
  refine ⟨fun i m H => i + m = n ∧ Pv i H, ⟨n, Nat.zero_add _, h0⟩, ?_⟩
  rintro i m H ⟨e, p⟩
  have hi : i ≤ n := by omega
  obtain ⟨S1, S2⟩ := hl i H hi p
  cases m with
  | zero =>
    obtain rfl : i = n := by omega
    exact .inl ⟨⟨xs, ys, S1, S2, by omega⟩, hd H p⟩
  | succ m =>
    have hx : xs[i]? = some (xs[i]'(by omega)) := List.getElem?_eq_getElem _
    have hy : ys[i]? = some (ys[i]'(by omega)) := List.getElem?_eq_getElem _
    refine .inr ⟨⟨xs, ys, _, _, S1, S2, hx, hy⟩, Pv (i + 1), fun H' p' => ⟨m, Nat.lt_succ_self _, by omega, p'⟩, ?_⟩
    rintro x H' ⟨T, x1, y1, rfl, hT, rfl, f1, f2⟩
    exact hs i x1 y1 H T (f1 xs S1) (f2 ys S2) p hT
section
variable {R : Rg} {K : PySem.W.Frag} {σ : L2.St} {H Hn : Hp} {N N0 : Addr → Prop} {D : Ends} {ta : TA} {tu tz : TS} {g1 g2 : TG} {t : TT} {te : TE}
/-- for x, y in zip(two lists) -/
theorem q_forZz {Re : Rg} {n : Nat} {as bs : List PyData} (h : EvA Re ta σ H N0 [.list as, .list bs]) (ok : Re.I H) (sub : ∀ a, R.W a → N0 a) (hn : n = min as.length bs.length)
    (q : ∀ H1, Le Re H H1 → ∃ Pv : Nat → L2.St → Hp → Prop, Pv 0 σ H1 ∧ (∀ i σ' H', Pv i σ' H' → Le R H1 H') ∧
      (∀ i x y u v σ' H' H'', as[i]? = some x → bs[i]? = some y → Pv i σ' H' → Evl.Ex H' H'' → Dt N0 H'' x u → Dt N0 H'' y v → g1 u σ' H'' fun σ1 H1 => ∃ w ws, [v] = w :: ws ∧ g2 w σ1 H1 fun σ2 H2 => ws = [] ∧ tu { D with nx := Pv (i + 1), ct := Pv (i + 1), bk := tz D } σ2 H2) ∧
      ∀ σ' H', Pv n σ' H' → tz D σ' H') :
    tSeq (tFor (iZip K ta) (gTup K 2 (gCons g1 (gCons g2 gNil))) tu) tz D σ H := by
  refine h H (Le.refl ok) _ fun ws H1 e1 r => ?_
  cases r with
  | cons r1 r => cases r with
    | cons r2 r =>
      cases r
      obtain ⟨Pv, h0, hle, hs, hd⟩ := q H1 e1
      obtain ⟨a, xs, rfl, na, hl, ra⟩ := r1.listy
      obtain ⟨b, ys, rfl, nb, hm, rb⟩ := r2.listy
      have naW : ¬ R.W a := fun w => na (sub a w)
      have nbW : ¬ R.W b := fun w => nb (sub b w)
      refine ⟨a, b, xs, ys, rfl, SqL.of hl, SqL.of hm, for_zz (D := { D with nx := tz D }) (n := n) (by rw [ra.length, rb.length]; exact hn) Pv h0 (fun i σ' H' _ p => ⟨SqL.of ((hle i σ' H' p).ext a _ naW hl), SqL.of ((hle i σ' H' p).ext b _ nbW hm)⟩) (fun i x y σ' H' T hi hj p hT => ?_) hd⟩
      obtain ⟨dx, hdx, rx⟩ := ra.getV hi
      obtain ⟨dy, hdy, ry⟩ := rb.getV hj
      have l0 := hle i σ' H' p
      obtain ⟨l1, -⟩ := new_t sub l0.ok hT (.cons (rx.le l0 sub) (.cons (ry.le l0 sub) .nil))
      refine ⟨T, _, rfl, SqT.of upd_same, rfl, _, _, rfl, ?_⟩
      exact hs i dx dy x y σ' H' _ hdx hdy p (Evl.Ex.new hT) (rx.le (l0.trans l1) sub) (ry.le (l0.trans l1) sub)
/-- a comprehension over zip of two lists -/
theorem p_lcZz {vs : List Nat} {n : Nat} {as bs : List PyData} (T : Nat → Option PyData → Prop) (h : EvA R ta σ H N0 [.list as, .list bs]) (s0 : ∀ a, R.W a → N0 a) (hn : n = min as.length bs.length) (hz : n ≤ 40000) (nk : Nk R N H)
    (ht : ∀ (i : Nat) (x y : PyData) (u v : V) D H1, H D = none → Le R H H1 → Nk R (fun a => a = D ∨ N a) H1 → as[i]? = some x → bs[i]? = some y → Dt (fun a => a = D ∨ N0 a) H1 x u → Dt (fun a => a = D ∨ N0 a) H1 y v →
      ∃ σ2, (∀ Qs : L2.St → Hp → Prop, Qs σ2 H1 → g1 u (wipe σ vs) H1 fun σ1 H1 => ∃ w ws, [v] = w :: ws ∧ g2 w σ1 H1 fun σ' H' => ws = [] ∧ Qs σ' H') ∧ wipe σ2 vs = wipe σ vs ∧ EvF R t te σ2 H1 (fun a => a = D ∨ N a) (T i)) :
    EvP R (tLc (iZip K ta) (gTup K 2 (gCons g1 (gCons g2 gNil))) t te vs) σ H N (Out n T) := fun H0 e Q q => h H0 e _ fun ws H1 e1 r => by
  cases r with
  | cons r1 r => cases r with
    | cons r2 r =>
      cases r
      obtain ⟨a, xs, rfl, na, hl, ra⟩ := r1.listy
      obtain ⟨b, ys, rfl, nb, hm, rb⟩ := r2.listy
      have e01 := e.trans e1
      have naW : ¬ R.W a := fun w => na (s0 a w)
      have nbW : ¬ R.W b := fun w => nb (s0 b w)
      refine ⟨a, b, xs, ys, rfl, SqL.of hl, SqL.of hm, fun D hD => ?_⟩
      refine lc_zz (xs := xs) (ys := ys) (n := n) (by rw [ra.length, rb.length]; exact hn) (Lw R H1 N T D) (lw_start e1.ok hD) (fun i H' _ p => ⟨SqL.of (p.1.ext a _ naW hl), SqL.of (p.1.ext b _ nbW hm)⟩) (fun i x y H' Tp hi hj p hT => ?_) (fun H' p => ?_)
      · obtain ⟨dx, hdx, rx⟩ := ra.getV hi
        obtain ⟨dy, hdy, ry⟩ := rb.getV hj
        have hib := (List.getElem?_eq_some_iff.mp hdx).1
        have hjb := (List.getElem?_eq_some_iff.mp hdy).1
        have sub : ∀ b, R.W b → (b = D ∨ N0 b) := fun b w => .inr (s0 b w)
        have rx1 := (rx.more hD).le p.1 sub
        have ry1 := (ry.more hD).le p.1 sub
        obtain ⟨l1, -⟩ := new_t (N := fun a => a = D ∨ N0 a) sub p.1.ok hT (.cons rx1 (.cons ry1 .nil))
        have p2 := lw_le (nk.le e01) hD p l1
        have p' := p2
        obtain ⟨le', os, vs', _, _, h1, _⟩ := p'
        obtain ⟨σ2, hg, hw, hF⟩ := ht i dx dy x y D _ (e01.back D hD) (e01.trans le') (nk_more (nk.le e01) le' h1) hdx hdy (rx1.le l1 sub) (ry1.le l1 sub)
        refine ⟨Tp, _, rfl, SqT.of upd_same, rfl, _, _, rfl, ?_⟩
        exact hg _ ⟨hw, lw_turn (nk.le e01) hD p2 (by omega) hF⟩
      · obtain ⟨d, o, le', r⟩ := lw_end (nk.le e01) hD p
        exact q d _ H' (e1.trans le') o r
end
end FF
set_option Elab.async false
set_option linter.all false
set_option maxRecDepth 100000
set_option maxHeartbeats 4000000
/-! the program: the least row -/
namespace FF
open PySem PySem.Spec PyProof.Rows L2
open PySem.W (AlikeAll minD dataLt alike alikeAll)
def s0 : St4 := ⟨0, 0, 0, []⟩
def llP (ranks : List Int) (l : List St4) (f h : Option Nat) : St4 := minS (longerP ranks (l.headD s0) f h) (l.tail.map fun s => longerP ranks s f h)
def stepP (ranks : List Int) (l : List St4) (p : List Nat × Option Nat) : List St4 := (tell p.1).map fun f => llP ranks l f p.2
def leastP (ranks : List Int) (ps : List (List Nat × Option Nat)) : List St4 := ps.foldl (stepP ranks) [s0]
def bestP (ranks : List Int) (ps : List (List Nat × Option Nat)) : St4 := minS ((leastP ranks ps).headD s0) (leastP ranks ps).tail
def pats (ps : List (List Nat × Option Nat)) : List Bool := ps.map fun p => p.1.isEmpty
theorem step_ne (ranks : List Int) (l : List St4) (p : List Nat × Option Nat) : stepP ranks l p ≠ [] := by
  unfold stepP
  intro e
  exact tell_ne p.1 (List.map_eq_nil_iff.1 e)
theorem llP_mem {ranks : List Int} {l : List St4} {f h : Option Nat} (hl : l ≠ []) : ∃ s ∈ l, llP ranks l f h = longerP ranks s f h := by
  cases l with
  | nil => exact absurd rfl hl
  | cons a l =>
    have := minS_mem (longerP ranks a f h) (l.map fun s => longerP ranks s f h)
    rw [← List.map_cons (f := fun s => longerP ranks s f h)] at this
    obtain ⟨s, hs, e⟩ := List.mem_map.1 this
    exact ⟨s, hs, e.symm⟩
theorem step_rws {ranks : List Int} {p : List Bool} {l : List St4} {fs : List Nat} {h : Option Nat} (r : Rws p l) (hl : l ≠ []) (hp : p.length < 1000) (hf : fs.length ≤ 1000) : Rws (p ++ [fs.isEmpty]) (stepP ranks l (fs, h)) := by
  refine ⟨fun s hs => ?_, by rw [List.length_append]; show p.length + 1 ≤ 1000; omega, ?_⟩
  · unfold stepP at hs
    obtain ⟨f, hf, rfl⟩ := List.mem_map.1 hs
    obtain ⟨t, ht, e⟩ := llP_mem (ranks := ranks) (f := f) (h := h) hl
    show pat (llP ranks l f h) = _
    rw [e]
    unfold pat longerP
    rw [List.map_append]
    show pat t ++ [f.isNone] = _
    rw [r.pt t ht, tell_none hf]
  · unfold stepP tell
    rw [List.length_map]
    split
    · show 1 ≤ 1000
      decide
    · rw [List.length_map]
      exact hf
theorem leastP_snoc (ranks : List Int) (ps : List (List Nat × Option Nat)) (p : List Nat × Option Nat) : leastP ranks (ps ++ [p]) = stepP ranks (leastP ranks ps) p := by
  unfold leastP
  rw [List.foldl_append]
  rfl
theorem fold_rws (ranks : List Int) (ps : List (List Nat × Option Nat)) : ∀ (p : List Bool) (l : List St4), Rws p l → l ≠ [] → p.length + ps.length ≤ 1000 → (∀ q ∈ ps, q.1.length ≤ 1000) → Rws (p ++ pats ps) (ps.foldl (stepP ranks) l) ∧ ps.foldl (stepP ranks) l ≠ [] := by
  induction ps with
  | nil => intro p l r hl _ _; exact ⟨by unfold pats; rw [List.map_nil, List.append_nil]; exact r, hl⟩
  | cons q ps ih =>
    intro p l r hl hn hf
    have hn' : p.length + (ps.length + 1) ≤ 1000 := hn
    have := ih (p ++ [q.1.isEmpty]) (stepP ranks l q) (step_rws (h := q.2) r hl (by omega) (hf q (List.mem_cons_self ..))) (step_ne _ _ _) (by rw [List.length_append]; show p.length + 1 + ps.length ≤ 1000; omega) fun x hx => hf x (List.mem_cons_of_mem _ hx)
    rw [List.append_assoc] at this
    exact this
theorem least_ne (ranks : List Int) (ps : List (List Nat × Option Nat)) : leastP ranks ps ≠ [] := by
  unfold leastP
  have : ∀ (ps : List (List Nat × Option Nat)) (l : List St4), l ≠ [] → ps.foldl (stepP ranks) l ≠ [] := by
    intro ps
    induction ps with
    | nil => exact fun l h => h
    | cons q ps ih => exact fun l h => ih _ (step_ne _ _ _)
  exact this ps _ (List.cons_ne_nil _ _)
theorem least_rws (ranks : List Int) (ps : List (List Nat × Option Nat)) (hl : ps.length ≤ 1000) (hf : ∀ p ∈ ps, p.1.length ≤ 1000) : Rws (pats ps) (leastP ranks ps) :=
  (fold_rws ranks ps [] [s0] ⟨fun s hs => by rw [List.mem_singleton.1 hs]; rfl, Nat.zero_le _, by show 1 ≤ 1000; decide⟩ (List.cons_ne_nil _ _) (by show 0 + ps.length ≤ 1000; omega) hf).1
def sp_least_row : Sp := fun vs H Q _ => ∃ (vc vr vh : V) (css : List (List Nat)) (ranks : List Int) (had : List (Option Nat)), vs = [vc, vr, vh] ∧ Dt No H (chosenD css) vc ∧ Dt No H (.list (ranks.map .int)) vr ∧ Dt No H (rowD had) vh ∧ had.length = css.length ∧ css.length ≤ 1000 ∧ (∀ fs ∈ css, fs.length ≤ 1000 ∧ ∀ n ∈ fs, n < ranks.length) ∧
  ∀ u H', Le R0 H H' → Dt (Dom H) H' (rowD (bestP ranks (css.zip had)).row) u → Q u H'
abbrev r_least_row (K : PySem.W.Frag) : TS :=
    (tSeq (tAsg (tLst (tCons (tTup (tCons (tC (.int 0)) (tCons (tC (.int 0)) (tCons (tC (.int 0)) (tCons (tLst tNil) tNil))))) tNil)) (gName 3))
    (tSeq (tFor (iZip K (tCons (tVar 0) (tCons (tVar 2) tNil))) (gTup K 2 (gCons (gName 4) (gCons (gName 5) gNil)))
      (tAsg (tLc (iList K (tCall sp_tellable [] E0 (tCons (tVar 4) tNil))) (gName 6) tYes (tCall sp_least_longer [] E0 (tCons (tVar 3) (tCons (tVar 6) (tCons (tVar 5) (tCons (tVar 1) tNil))))) [6]) (gName 3)))
    (tRet (tOp (rIx K) (tCB (rMinU K) (tCons (tVar 3) tNil)) (tC (.int 3))))))
theorem rd_least_row {K : PySem.W.Frag} (vs : List V) (H : Hp) (Q : VK) (E : XK) (hh : sp_least_row vs H Q E) : r_least_row K { nx := fun _ H' => Q .non H', rt := Q } (start ["choices", "ranks", "had", "least", "faces", "face_had", "face"] vs) H := by
  obtain ⟨vc, vr, vh, css, ranks, had, rfl, hc, hr, hd, hlen, hl, hf, k⟩ := hh
  have nW : ∀ (N : Addr → Prop) (a : Addr), R0.W a → N a := fun _ _ z => z.elim
  have nk : Nk R0 (Dom H) H := Nk.dom trivial
  have zl : (css.zip had).length = css.length := by rw [List.length_zip]; omega
  have hz : ∀ p ∈ css.zip had, p.1 ∈ css := fun p hp => (List.of_mem_zip hp).1
  have rws : ∀ i, Rws (pats ((css.zip had).take i)) (leastP ranks ((css.zip had).take i)) := fun i => least_rws ranks _ (by rw [List.length_take]; omega) fun p hp => (hf _ (hz p (List.mem_of_mem_take hp))).1
  refine q_asg (R := R0) (N := Dom H) (d := .list ([s0].map stD)) ((e_lst (ds := [stD s0]) (a_one ((e_tup (ds := [.int 0, .int 0, .int 0, .list []]) (a_cons e_int (a_cons e_int (a_cons e_int (a_one ((e_lst (ds := []) a_nil nk (by decide)).is rfl)) (nW _)) (nW _)) (nW _)) (nW _) (by show 4 ≤ 100000; decide)).is rfl)) nk (by show 1 ≤ 100000; decide)).is rfl) trivial fun v0 H0 e0 r0 => ?_
  refine q_forZz (R := R0) (Re := R0) (N0 := No) (n := css.length) (as := css.map natsD) (bs := had.map oD) (a_cons (e_var rfl (hc.le e0 (nW _)) (nW _)) (a_one (e_var rfl (hd.le e0 (nW _)) (nW _))) (nW _)) trivial (nW _) (by rw [List.length_map, List.length_map]; omega) fun H1 e1 => ?_
  have e01 := e0.trans e1
  refine ⟨fun i σ' H' => (∃ v a b c, σ' = [some vc, some vr, some vh, some v, a, b, c] ∧ Dt (Dom H) H' (.list ((leastP ranks ((css.zip had).take i)).map stD)) v) ∧ Le R0 H1 H', ⟨⟨v0, none, none, none, rfl, r0.le e1 (nW _)⟩, Le.refl trivial⟩, fun i σ' H' p => p.2, fun i x y u v σ' H' H'' hi hj p l1e rx ry => ?_, fun σ' H' p => ?_⟩
  · obtain ⟨⟨vl, a, b, c, rfl, rl⟩, l2⟩ := p
    have l1 := Le.r0 l1e
    refine ⟨_, _, rfl, rfl, ?_⟩
    obtain ⟨fs, hfs, rfl⟩ : ∃ fs, css[i]? = some fs ∧ x = natsD fs := by
      rw [List.getElem?_map] at hi
      cases e : css[i]? with
      | none => rw [e] at hi; cases hi
      | some c => rw [e] at hi; exact ⟨c, rfl, (Option.some.inj hi).symm⟩
    obtain ⟨h, hh, rfl⟩ : ∃ h, had[i]? = some h ∧ y = oD h := by
      rw [List.getElem?_map] at hj
      cases e : had[i]? with
      | none => rw [e] at hj; cases hj
      | some c => rw [e] at hj; exact ⟨c, rfl, (Option.some.inj hj).symm⟩
    have hmem : fs ∈ css := List.mem_of_getElem? hfs
    have hzi : (css.zip had)[i]? = some (fs, h) := List.getElem?_zip_eq_some.2 ⟨hfs, hh⟩
    have snoc : (css.zip had).take (i + 1) = (css.zip had).take i ++ [(fs, h)] := by rw [List.take_succ, hzi]; rfl
    have lo := ((e01.trans l2).trans l1)
    have nk2 := nk.le lo
    have hlt : i < css.length := (List.getElem?_eq_some_iff.1 hfs).1
    have r := rws i
    have lne := least_ne ranks ((css.zip had).take i)
    have plen : (pats ((css.zip had).take i)).length < 1000 := by unfold pats; rw [List.length_map, List.length_take]; omega
    have step : leastP ranks ((css.zip had).take (i + 1)) = (tell fs).map fun f => llP ranks (leastP ranks ((css.zip had).take i)) f h := by rw [snoc, leastP_snoc]; rfl
    have tl : (tell fs).length ≤ 1000 := by
      have := (hf fs hmem).1
      unfold tell
      split
      · show 1 ≤ 1000
        decide
      · rw [List.length_map]; exact this
    obtain ⟨s, l, esl⟩ : ∃ s l, leastP ranks ((css.zip had).take i) = s :: l := by
      cases e : leastP ranks ((css.zip had).take i) with
      | nil => exact absurd e lne
      | cons s l => exact ⟨s, l, rfl⟩
    have rl2 := rl.le l1 (nW _)
    rw [esl] at rl2 r step
    have tel : Ev R0 (tCall sp_tellable [] E0 (tCons (tVar 4) tNil)) [some vc, some vr, some vh, some vl, some u, some v, c] H'' No (.list ((tell fs).map oD)) := e_call (a_one (e_var rfl rx (nW _))) fun H2 vs e r Q q => by
      cases r with
      | cons r1 r2 =>
        cases r2
        exact ⟨_, fs, rfl, r1, fun u H' e' r' => q u H' e' r'⟩
    refine s_asg (R := R0) (N := Dom H) (d := .list ((leastP ranks ((css.zip had).take (i + 1))).map stD)) (EvP.ev ((p_lcL (N0 := No) (ds := (tell fs).map oD) (fun j o => o = some (stD (llP ranks (s :: l) ((tell fs).getD j none) h))) tel (nW _) (by rw [List.length_map]; omega) nk2 (fun _ => rfl) fun j x w D H2 hD e2 nk3 hx r2 => ?_).imp fun d o => ?_)) trivial fun w H2 e2 rw_ => ?_
    · obtain ⟨f, hfj, rfl⟩ : ∃ f, (tell fs)[j]? = some f ∧ x = oD f := by
        rw [List.getElem?_map] at hx
        cases e : (tell fs)[j]? with
        | none => rw [e] at hx; cases hx
        | some c => rw [e] at hx; exact ⟨c, rfl, (Option.some.inj hx).symm⟩
      have gd : (tell fs).getD j none = f := by rw [List.getD_eq_getElem?_getD, hfj]; rfl
      refine f_some ?_
      rw [gd]
      refine fun H3 e3 Q q => ⟨vl, rfl, w, rfl, v, rfl, vr, rfl, vl, w, v, vr, s, l, f, h, ranks, _, rfl, (rl2.le (e2.trans e3) (nW _)).no, (r2.le e3 (nW _)).no, ry.le (e2.trans e3) (nW _), hr.le ((lo.trans e2).trans e3) (nW _), fun n e => ?_, r, plen, fun u' H4 e4 ru => q u' H4 e4 (ru.weak (nk3.le e3).domle)⟩
      subst e
      have hm := List.mem_of_getElem? hfj
      unfold tell at hm
      split at hm
      · cases List.mem_singleton.1 hm
      · obtain ⟨m, hm2, e⟩ := List.mem_map.1 hm
        cases e
        exact (hf fs hmem).2 _ hm2
    · have q := out_det (f := fun _ => true) (g := fun j => stD (llP ranks (s :: l) ((tell fs).getD j none) h)) (by simpa using o)
      rw [q, List.filter_eq_self.2 (fun _ _ => rfl), step, List.map_map]
      exact congrArg PyData.list (map_range (l := tell fs) (g := fun j => stD (llP ranks (s :: l) ((tell fs).getD j none) h)) (f := stD ∘ fun f => llP ranks (s :: l) f h) fun j f hj => by rw [List.getD_eq_getElem?_getD, hj]; rfl)
    · exact ⟨⟨w, _, _, _, rfl, rw_⟩, (l2.trans l1).trans e2⟩
  · obtain ⟨⟨vl, a, b, c, rfl, rl⟩, l2⟩ := p
    have lo := e01.trans l2
    have eall : (css.zip had).take css.length = css.zip had := by rw [← zl, List.take_length]
    have r := rws css.length
    rw [eall] at rl r
    have lne := least_ne ranks (css.zip had)
    have eb : bestP ranks (css.zip had) = minS ((leastP ranks (css.zip had)).headD s0) (leastP ranks (css.zip had)).tail := rfl
    obtain ⟨s, l, esl⟩ : ∃ s l, leastP ranks (css.zip had) = s :: l := by
      cases e : leastP ranks (css.zip had) with
      | nil => exact absurd e lne
      | cons s l => exact ⟨s, l, rfl⟩
    rw [esl] at rl r eb
    have mn := e_min (K := K) (R := R0) (N := Dom H) (σ := [some vc, some vr, some vh, some vl, a, b, c]) (H := H') (te := tVar 3) (d := stD s) (ds := l.map stD) (e_var rfl rl (nW _)) r.alike r.depth
    rw [minD_st] at mn
    refine s_ret (R := R0) (N := Dom H) (d := rowD (bestP ranks (css.zip had)).row) (e_ixt (i := 3) mn e_int (nW _) ?_) trivial fun u H2 e2 ru => k u H2 (lo.trans e2) ru
    rw [eb]
    rfl
end FF
set_option Elab.async false
set_option linter.all false
set_option maxRecDepth 100000
set_option maxHeartbeats 4000000
/-! the program: shown, changes, bounds -/
namespace FF
open PySem PySem.Spec PyProof.Rows L2
open GxR (TabB TabG Tabbed)
theorem havP_len (fs : List Face) (s : List Int) : (havP fs s).length ≤ fs.length := by
  unfold havP
  have := List.length_filter_le (fun k => hasAll (fs.getD k default) s) (List.range fs.length)
  rw [List.length_range] at this
  exact this
theorem havP_lt {fs : List Face} {s : List Int} {n : Nat} (h : n ∈ havP fs s) : n < fs.length := by
  unfold havP at h
  exact List.mem_range.1 (List.mem_filter.1 h).1
def chosen (fs : List Face) (t : List Int) : List (List Nat) := (partsI t).map (havP fs)
def shownP (fs : List Face) (t : List Int) : List (Option Nat) := (bestP (fs.map (·.rank)) ((chosen fs t).zip (List.replicate (chosen fs t).length none))).row
def sp_shown (C : Addr) (T : List Addr) : Sp := fun vs H Q _ => ∃ (x : Addr) (v : V) (fs : List Face) (t : List Int), vs = [.ref x, v] ∧ CaseAt No C H x fs ∧ Dt No H (.list (t.map .int)) v ∧ fs.length ≤ 1000 ∧ t.length ≤ 1000 ∧ badAt t = none ∧ (Rt T).I H ∧
  ∀ u H', Le (Rt T) H H' → Dt (Dom H) H' (rowD (shownP fs t)) u → Q u H'
abbrev r_shown (K : PySem.W.Frag) (C : Addr) (T : List Addr) : TS :=
    (tSeq (tAsg (tCall (sp_choices C T) [] E0 (tCons (tVar 0) (tCons (tVar 1) tNil))) (gName 2))
    (tSeq (tAsg (tLc (iList K (tMeth C "faces" (sp_faces C) [] E0 (tVar 0) tNil)) (gTup K 3 (gCons (gName 4) (gCons (gName 5) (gCons (gName 4) gNil)))) tYes (tVar 5) [4, 5]) (gName 3))
    (tRet (tCall sp_least_row [] E0 (tCons (tVar 2) (tCons (tVar 3) (tCons (tOp rMulU (tLst (tCons (tC .non) tNil)) (tCB (rLenU K) (tCons (tVar 2) tNil))) tNil)))))))
theorem rep_none (n : Nat) : rowD (List.replicate n none) = .list (List.replicate n PyData.none) := by
  unfold rowD
  rw [List.map_replicate]
  rfl
theorem dta_rep {N : Addr → Prop} {H : Hp} (n : Nat) : DtA N H (List.replicate n PyData.none) (List.replicate n V.non) := by
  induction n with
  | zero => exact .nil
  | succ n ih => exact .cons .non ih
theorem flat_rep (n : Nat) (v : V) : (List.replicate n [v]).flatten = List.replicate n v := by
  induction n with
  | zero => rfl
  | succ n ih => rw [List.replicate_succ, List.flatten_cons, ih]; rfl
theorem e_repN {R : Rg} {σ : L2.St} {H : Hp} {N : Addr → Prop} {tn : TE} {n : Nat} (hn : n ≤ 100000) (h : Ev R tn σ H N (.int (n : Int))) (nk : Nk R N H) : Ev R (tOp rMulU (tLst (tCons (tC .non) tNil)) tn) σ H N (rowD (List.replicate n none)) := fun H1 e Q q => by
  have h1 : 1 ≤ sizeLine := by decide
  refine ⟨h1, fun p hp => ?_⟩
  have l1 : Le R H1 (upd H1 p (.lst [.non])) := Le.new hp e.ok
  refine h _ (e.trans l1) _ fun v H2 e2 r => ?_
  cases r
  have pW : ¬ R.W p := fun w => by obtain ⟨o, q, _⟩ := R.wt H1 p e.ok w; rw [hp] at q; cases q
  refine .inr ⟨p, n, [.non], rfl, rfl, e2.ext p _ pW upd_same, by omega, by omega, ?_, fun p2 hp2 => ?_⟩
  · rw [sizeLine_eq, Int.toNat_natCast]
    show 1 * n ≤ 16777216
    omega
  · rw [Int.toNat_natCast, flat_rep]
    rw [rep_none] at q
    obtain ⟨l3, d3⟩ := new_l nk ((e.trans l1).trans e2) hp2 (dta_rep (N := N) n)
    exact q _ _ ((l1.trans e2).trans l3) d3
theorem p_len {K : PySem.W.Frag} {R : Rg} {σ : L2.St} {H : Hp} {N N' : Addr → Prop} {te : TE} {φ : PyData → Prop} {n : Nat} (h : EvP R te σ H N φ) (hφ : ∀ d, φ d → ∃ ds, d = .list ds ∧ ds.length = n) : Ev R (tCB (rLenU K) (tCons te tNil)) σ H N' (.int (n : Int)) := fun H1 e Q q => h H1 e _ fun d v H2 e2 p r => by
  obtain ⟨ds, rfl, hn⟩ := hφ d p
  obtain ⟨a, xs, rfl, na, hl2, ra⟩ := r.listy
  refine .inl ⟨a, xs, rfl, .inl (SqL.of hl2), ?_⟩
  rw [ra.length, hn]
  exact q _ H2 e2 (.int _)
section
variable {K : PySem.W.Frag} {C : Addr} {T : List Addr}
theorem rd_shown (vs : List V) (H : Hp) (Q : VK) (E : XK) (h : sp_shown C T vs H Q E) : r_shown K C T { nx := fun _ H' => Q .non H', rt := Q } (start ["case", "text", "faces_of", "ranks", "_", "rank"] vs) H := by
  obtain ⟨x, v, fs, t, rfl, hc, hv, hf, hl, hb, ok, k⟩ := h
  have nW : ∀ a, (Rt T).W a → a ∈ T := fun a w => w
  have nk : Nk (Rt T) (Dom H) H := Nk.dom ok
  have hc2 := hc.rt ok
  have hv2 : Dt (fun a => a ∈ T) H (.list (t.map .int)) v := hv.rt ok
  refine q_asg (R := Rt T) (N := Dom H) (d := chosenD (chosen fs t)) (fun H1 e Q q => ⟨_, rfl, _, rfl, x, v, fs, t, rfl, (hc2.le e nW).weak fun a z => z.elim, (hv2.le e nW).no, hf, hl, hb, e.ok, fun u H' e' r => q u H' e' (r.weak (nk.le e).domle)⟩) ok fun vc H1 e1 rc => ?_
  have lf : (fs.map faceD).length = fs.length := List.length_map ..
  refine q_asg (R := Rt T) (N := Dom H) (d := .list ((fs.map (·.rank)).map .int)) (EvP.ev ((p_lcG (N0 := fun a => a ∈ T) (ds := fs.map faceD) (fun i o => o = some (.int (fs.getD i default).rank)) (e_faces rfl (hc2.le e1 nW) nW (nk_rt e1.ok)) nW (by rw [lf]; omega) (nk.le e1) fun i y u D H2 hD e2 nk2 hi r => ?_).imp fun d o => ?_)) e1.ok fun vr H2 e2 rr => ?_
  · obtain ⟨f, hf, rfl⟩ := face_ix hi
    obtain ⟨at_, xs, rfl, ht, ra⟩ := r.tupy
    cases ra with
    | cons r1 ra => cases ra with
      | cons r2 ra => cases ra with
        | cons r3 ra =>
          cases ra
          cases r1; cases r2; cases r3
          have gd : fs.getD i default = f := by rw [List.getD_eq_getElem?_getD, hf]; rfl
          refine ⟨[some (.ref x), some v, some vc, none, some _, some (.int f.rank)], fun Qs q => ⟨at_, _, rfl, SqT.of ht, rfl, _, _, rfl, _, _, rfl, _, _, rfl, rfl, q⟩, rfl, ?_⟩
          rw [gd]
          exact f_some (e_vi rfl)
  · have q := out_det (f := fun _ => true) (g := fun i => PyData.int (fs.getD i default).rank) (by simpa using o)
    rw [q, List.filter_eq_self.2 (fun _ _ => rfl), List.map_map]
    exact congrArg PyData.list (map_range (l := fs) (f := PyData.int ∘ fun f => f.rank) fun i f hf => by rw [List.getD_eq_getElem?_getD, hf]; rfl)
  · have lo := e1.trans e2
    have nk2 := nk.le lo
    have lc : (chosen fs t).length ≤ 1000 := by
      unfold chosen
      rw [List.length_map]
      have := parts_len t
      omega
    have rc2 := rc.le e2 nk.sub
    have lcd : ((chosen fs t).map natsD).length = (chosen fs t).length := List.length_map ..
    have evc : ∀ {H3 : Hp}, Le (Rt T) H2 H3 → Ev (Rt T) (tVar 2) [some (.ref x), some v, some vc, some vr, none, none] H3 (Dom H) (.list ((chosen fs t).map natsD)) := fun e => e_var rfl (rc2.le e nk.sub) nk.sub
    refine s_ret (R := Rt T) (N := Dom H) (d := rowD (shownP fs t)) (e_call (a_cons (evc (Le.refl e2.ok)) (a_cons (e_var rfl rr nk.sub) (a_one (e_repN (n := (chosen fs t).length) (by omega) (by rw [← lcd]; exact e_lenl (evc (Le.refl e2.ok))) nk2)) nk.sub) nk.sub) fun H3 vs e r Q q => ?_) e2.ok fun u H3 e3 ru => k u H3 (lo.trans e3) ru
    cases r with
    | cons r1 r => cases r with
      | cons r2 r => cases r with
        | cons r3 r =>
          cases r
          refine ⟨_, _, _, chosen fs t, fs.map (fun f : Face => f.rank), List.replicate (chosen fs t).length none, rfl, r1.no, r2.no, r3.no, List.length_replicate .., lc, fun cs hcs => ?_, fun u H' e' ru => q u H' (e'.r0t e.ok) (ru.weak (nk2.le e).domle)⟩
          unfold chosen at hcs
          obtain ⟨c, _, rfl⟩ := List.mem_map.1 hcs
          refine ⟨Nat.le_trans (havP_len fs c) hf, fun n hn => ?_⟩
          rw [List.length_map]
          exact havP_lt hn
end
def chg (r : List (Option Nat)) : Nat := ((List.range (r.length - 1)).filter fun i => !decide (r.getD i none = r.getD (i + 1) none)).length
def sp_changes : Sp := fun vs H Q _ => ∃ (v : V) (r : List (Option Nat)), vs = [v] ∧ Dt No H (rowD r) v ∧ r.length ≤ 1000 ∧ ∀ H', Le R0 H H' → Q (.int (chg r : Nat)) H'
abbrev r_changes (K : PySem.W.Frag) : TS :=
    (tRet (tCB (rLenU K) (tCons (tLc (iZip K (tCons (tVar 0) (tCons (tSl (rSlU K) (tVar 0) (tPart (tC (.int 1))) tNoPart) tNil))) (gTup K 2 (gCons (gName 1) (gCons (gName 2) gNil))) (tTest (tOp (rNeD K) (tVar 1) (tVar 2))) (tVar 2) [1, 2]) tNil)))
theorem rd_changes {K : PySem.W.Frag} (vs : List V) (H : Hp) (Q : VK) (E : XK) (h : sp_changes vs H Q E) : r_changes K { nx := fun _ H' => Q .non H', rt := Q } (start ["row", "ahead", "face"] vs) H := by
  obtain ⟨v, r, rfl, hv, hl, k⟩ := h
  have nW : ∀ (N : Addr → Prop) (a : Addr), R0.W a → N a := fun _ _ z => z.elim
  have nk : Nk R0 (Dom H) H := Nk.dom trivial
  have lr : (r.map oD).length = r.length := List.length_map ..
  have ev : ∀ {N : Addr → Prop}, Ev R0 (tVar 0) [some v, none, none] H No (.list (r.map oD)) := e_var rfl hv (nW _)
  have hat : ∀ {i : Nat} {x : PyData}, (r.map oD)[i]? = some x → x = oD (r.getD i none) := fun {i x} h => by
    rw [List.getElem?_map] at h
    cases e : r[i]? with
    | none => rw [e] at h; cases h
    | some f => rw [e] at h; rw [List.getD_eq_getElem?_getD, e]; exact (Option.some.inj h).symm
  have comp : EvP R0 (tLc (iZip K (tCons (tVar 0) (tCons (tSl (rSlU K) (tVar 0) (tPart (tC (.int 1))) tNoPart) tNil))) (gTup K 2 (gCons (gName 1) (gCons (gName 2) gNil))) (tTest (tOp (rNeD K) (tVar 1) (tVar 2))) (tVar 2) [1, 2]) [some v, none, none] H (Dom H) (Out (r.length - 1) fun i o => o = if (!decide (r.getD i none = r.getD (i + 1) none)) = true then some (oD (r.getD (i + 1) none)) else none) := by
    have hv0 : Ev R0 (tVar 0) [some v, none, none] H No (.list (r.map oD)) := e_var rfl hv (nW _)
    have hs : Ev R0 (tSl (rSlU K) (tVar 0) (tPart (tC (.int 1))) tNoPart) [some v, none, none] H No (.list ((r.map oD).drop 1)) := (e_sll hv0 (o_some e_int) o_none nk0).is (by rw [cutD_drop1])
    have ha : EvA R0 (tCons (tVar 0) (tCons (tSl (rSlU K) (tVar 0) (tPart (tC (.int 1))) tNoPart) tNil)) [some v, none, none] H No [.list (r.map oD), .list ((r.map oD).drop 1)] := a_cons hv0 (a_one hs) (nW _)
    refine p_lcZz (K := K) (g1 := gName 1) (g2 := gName 2) (vs := [1, 2]) (n := r.length - 1) _ ha (nW _) (by rw [List.length_drop, lr]; omega) (by omega) nk fun i x y u w D H2 hD e2 nk2 hi hj rx ry => ?_
    obtain rfl := hat hi
    rw [List.getElem?_drop, Nat.add_comm] at hj
    obtain rfl := hat hj
    refine ⟨[some v, some u, some w], fun Qs q => ⟨_, _, rfl, rfl, q⟩, rfl, ?_⟩
    have c : EvT R0 (tTest (tOp (rNeD K) (tVar 1) (tVar 2))) [some v, some u, some w] H2 (!decide (r.getD i none = r.getD (i + 1) none)) := t_cmp (e_neO (N := No) (e_var0 rfl rx) (e_var0 rfl ry) (nW _))
    exact f_det c fun _ => e_var0 rfl ry
  have ln : Ev R0 (tCB (rLenU K) (tCons (tLc (iZip K (tCons (tVar 0) (tCons (tSl (rSlU K) (tVar 0) (tPart (tC (.int 1))) tNoPart) tNil))) (gTup K 2 (gCons (gName 1) (gCons (gName 2) gNil))) (tTest (tOp (rNeD K) (tVar 1) (tVar 2))) (tVar 2) [1, 2]) tNil)) [some v, none, none] H No (.int (chg r : Nat)) := p_len comp fun d o => by
    have o2 := out_det (f := fun i => !decide (r.getD i none = r.getD (i + 1) none)) (g := fun i => oD (r.getD (i + 1) none)) o
    exact ⟨_, o2, List.length_map ..⟩
  exact s_ret (R := R0) ln trivial fun u H2 e2 ru => by cases ru; exact k H2 e2
end FF
set_option Elab.async false
set_option linter.all false
set_option maxRecDepth 100000
set_option maxHeartbeats 4000000
/-! the program: bounds -/
namespace FF
open PySem PySem.Spec PyProof.Rows L2
/-- a region, and a list that may change -/
def Rg.plus (R : Rg) (p : Addr) : Rg where
  W := fun a => R.W a ∨ a = p
  I := fun H => R.I H ∧ ¬ R.W p ∧ ∃ xs, H p = some (.lst xs)
  st := fun H H' e ⟨i, n, xs, h⟩ => ⟨R.st H H' e i, n, xs, e p _ h⟩
  wt := fun H a ⟨i, n, xs, h⟩ w => by
    rcases w with w | rfl
    · exact R.wt H a i w
    · exact ⟨_, h, fun ys z => by cases z⟩
  mv := fun H q xs ys ⟨i, n, zs, h⟩ nw hq => ⟨R.mv H q xs ys i (fun w => nw (.inl w)) hq, n, zs, by rw [upd_ne fun e => nw (.inr e.symm)]; exact h⟩
section
variable {R : Rg} {H H1 : Hp} {p : Addr} {xs ys : List V}
theorem Le.plus (e : Le R H H1) (n : ¬ R.W p) (h : H p = some (.lst xs)) : Le (R.plus p) H H1 :=
  ⟨fun a o w q => e.ext a o (fun z => w (.inl z)) q, e.back, ⟨e.ok0, n, xs, h⟩, ⟨e.ok, n, xs, e.ext p _ n h⟩⟩
theorem Le.setp (e : Le (R.plus p) H H1) (h : H1 p = some (.lst xs)) : Le (R.plus p) H (upd H1 p (.lst ys)) where
  ext := fun a o w q => by rw [upd_ne fun z => w (.inr z)]; exact e.ext a o w q
  back := fun a q => by
    by_cases z : a = p
    · rw [z, upd_same] at q; cases q
    · rw [upd_ne z] at q; exact e.back a q
  ok0 := e.ok0
  ok := ⟨R.mv H1 p xs ys e.ok.1 e.ok.2.1 h, e.ok.2.1, ys, upd_same⟩
end
theorem pair_any {N N' : Addr → Prop} {H : Hp} {ps : List (Nat × Nat)} {vs : List V} (h : DtA N H (ps.map pairD) vs) : DtA N' H (ps.map pairD) vs := by
  induction ps generalizing vs with
  | nil => cases h; exact .nil
  | cons a r ih => cases h with
    | cons x t =>
      refine .cons ?_ (ih t)
      cases x with
      | tup hl ra => exact .tup hl (by cases ra with
        | cons r1 ra => cases ra with
          | cons r2 ra => cases ra; cases r1; cases r2; exact .cons (.int _) (.cons (.int _) .nil))
theorem clus_ix {t : List Int} {k : Nat} {p : Nat × Nat} (h : (clusP t)[k]? = some p) : k < (begs t).length ∧ (begs t)[k]? = some p.1 ∧ (ends t)[k]? = some p.2 := by
  have hk : k < (begs t).length := by
    have := (List.getElem?_eq_some_iff.1 h).1
    unfold clusP at this
    rwa [List.length_map, List.length_range] at this
  obtain ⟨x, y, hx, hy, _, _⟩ := clusP_at t k hk
  have : (clusP t)[k]? = some (x, y) := by
    unfold clusP
    rw [List.getElem?_map, List.getElem?_range hk]
    show some ((begs t).getD k 0, (ends t).getD k 0) = _
    rw [List.getD_eq_getElem?_getD, List.getD_eq_getElem?_getD, hx, hy]
    rfl
  rw [h] at this
  cases this
  exact ⟨hk, hx, hy⟩
theorem clus_first {t : List Int} {p : Nat × Nat} (h : (clusP t)[0]? = some p) : p.1 = 0 := by
  obtain ⟨hk, hb, _⟩ := clus_ix h
  cases t with
  | nil => rw [begs_nil] at hk; exact absurd hk (Nat.not_lt_zero _)
  | cons a r =>
    unfold begs at hb
    rw [List.length_cons, List.range_succ_eq_map, List.filter_cons_of_pos (by rfl)] at hb
    exact (Option.some.inj hb).symm
theorem clus_next {t : List Int} {k : Nat} {p q : Nat × Nat} (h : (clusP t)[k]? = some p) (h2 : (clusP t)[k + 1]? = some q) : q.1 = p.2 := by
  obtain ⟨_, _, he⟩ := clus_ix h
  obtain ⟨hk, hb, _⟩ := clus_ix h2
  unfold ends at he
  rw [List.getElem?_append_left (by rw [List.length_drop]; omega), List.getElem?_drop, show 1 + k = k + 1 by omega, hb] at he
  exact Option.some.inj he
/-- where the cluster k begins -/
def begK (t : List Int) : Nat → Nat
  | 0 => 0
  | k + 1 => ((clusP t).getD k (0, 0)).2
theorem begK_at {t : List Int} {k : Nat} {p : Nat × Nat} (h : (clusP t)[k]? = some p) : begK t k = p.1 := by
  cases k with
  | zero => exact (clus_first h).symm
  | succ k =>
    have hk := (List.getElem?_eq_some_iff.1 h).1
    have h0 : (clusP t)[k]? = some ((clusP t)[k]'(by omega)) := List.getElem?_eq_getElem _
    show ((clusP t).getD k (0, 0)).2 = _
    rw [List.getD_eq_getElem?_getD, h0]
    exact (clus_next h0 h).symm
theorem part_at {t : List Int} {k : Nat} {c : List Int} (h : (partsI t)[k]? = some c) : ∃ p, (clusP t)[k]? = some p ∧ c.length = p.2 - p.1 ∧ p.1 < p.2 ∧ p.2 ≤ t.length := by
  rw [← parts_clus _ t rfl, List.getElem?_map] at h
  cases e : (clusP t)[k]? with
  | none => rw [e] at h; cases h
  | some p =>
    rw [e] at h
    obtain rfl := Option.some.inj h
    obtain ⟨h1, h2⟩ := clusP_ok t p (List.mem_of_getElem? e)
    refine ⟨p, rfl, ?_, h1, h2⟩
    unfold cutT
    rw [List.length_take, List.length_drop]
    omega
theorem parts_clen (t : List Int) : (partsI t).length = (clusP t).length := by rw [← parts_clus _ t rfl, List.length_map]
section
variable {R : Rg} {K : PySem.W.Frag} {σ : L2.St} {H : Hp} {N : Addr → Prop} {D : Ends} {te : TE} {tu tz : TS}
/-- for x in a list that an expression gives -/
theorem q_forLe {Re : Rg} {j : Nat} {ds : List PyData} (h : Ev Re te σ H N (.list ds)) (ok : Re.I H) (sub : ∀ a, R.W a → N a)
    (q : ∀ H1, Le Re H H1 → ∃ Pv : Nat → L2.St → Hp → Prop, Pv 0 σ H1 ∧ (∀ i σ' H', Pv i σ' H' → Le R H1 H') ∧
      (∀ i x v σ' H', ds[i]? = some x → Pv i σ' H' → Dt N H' x v → tu { D with nx := Pv (i + 1), ct := Pv (i + 1), bk := tz D } (σ'.set j (some v)) H') ∧ ∀ σ' H', Pv ds.length σ' H' → tz D σ' H') : tSeq (tFor (iList K te) (gName j) tu) tz D σ H := by
  refine h H (Le.refl ok) _ fun v H1 e1 r => ?_
  obtain ⟨a, xs, rfl, na, hl, ra⟩ := r.listy
  have naW : ¬ R.W a := fun w => na (sub a w)
  obtain ⟨Pv, h0, hle, hs, hd⟩ := q H1 e1
  refine ⟨a, rfl, ⟨xs, SqL.of hl⟩, for_list (D := { D with nx := tz D }) (xs := xs) Pv h0 (fun i σ' H' _ p => SqL.of ((hle i σ' H' p).ext a _ naW hl)) (fun i x σ' H' hi p => ?_) (fun σ' H' p => ?_)⟩
  · obtain ⟨dx, hdx, rx⟩ := ra.getV hi
    exact hs i dx x σ' H' hdx p (rx.le (hle i σ' H' p) sub)
  · rw [ra.length] at p
    exact hd σ' H' p
end
def boundsD (t : List Int) : PyData := .list ((clusP t).map pairD)
def sp_bounds : Sp := fun vs H Q _ => ∃ (v : V) (t : List Int), vs = [v] ∧ Dt No H (.list (t.map .int)) v ∧ t.length ≤ 1000 ∧ badAt t = none ∧ ∀ u H', Le R0 H H' → Dt (Dom H) H' (boundsD t) u → Q u H'
abbrev r_bounds (K : PySem.W.Frag) : TS :=
    (tSeq (tAsg (tLst tNil) (gName 1))
    (tSeq (tAsg (tC (.int 0)) (gName 2))
    (tSeq (tFor (iList K (tCall sp_partedN [] E0 (tCons (tVar 0) tNil))) (gName 3) (tSeq (tAsg (tVar 2) (gName 4)) (tSeq (tAug 2 (tCB (rLenU K) (tCons (tVar 3) tNil)) ipAdd) (tDrop (tBM K "list" rAppend (tVar 1) (tCons (tTup (tCons (tVar 4) (tCons (tVar 2) tNil))) tNil))))))
    (tRet (tVar 1)))))
theorem take_snoc {α : Type} {l : List α} {i : Nat} {x : α} (h : l[i]? = some x) : l.take (i + 1) = l.take i ++ [x] := by rw [List.take_succ, h]; rfl
theorem rd_bounds {K : PySem.W.Frag} (vs : List V) (H : Hp) (Q : VK) (E : XK) (h : sp_bounds vs H Q E) : r_bounds K { nx := fun _ H' => Q .non H', rt := Q } (start ["text", "told", "end", "cluster", "begin"] vs) H := by
  obtain ⟨v, t, rfl, hv, hl, hb, k⟩ := h
  have nW : ∀ (N : Addr → Prop) (a : Addr), R0.W a → N a := fun _ _ z => z.elim
  have nk : Nk R0 (Dom H) H := Nk.dom trivial
  refine q_asgNew (R := R0) trivial fun p H0 hp e0 h0 => ?_
  refine q_asg (R := R0) (N := No) (d := .int 0) e_int trivial fun z H1 e1 rz => ?_
  cases rz
  have e01 := e0.trans e1
  have h1 := e1.ext p _ (fun z => z) h0
  have okp : (R0.plus p).I H1 := ⟨trivial, fun z => z, _, h1⟩
  have nP : ∀ a, (R0.plus p).W a → a = p := fun a w => by rcases w with w | w; exact w.elim; exact w
  have nkp : Nk R0 (fun a => a = p) H1 := ⟨fun a w => w.elim, fun a e z => by rw [e, h1] at z; cases z⟩
  have pe : Ev R0 (tCall sp_partedN [] E0 (tCons (tVar 0) tNil)) [some v, some (.ref p), some (.int 0), none, none] H1 (fun a => a = p) (.list ((partsI t).map fun c => .tuple (c.map .int))) := fun H2 e Q q => by
    have hv2 : Dt No H1 (.list (t.map .int)) v := hv.le e01 (nW _)
    have hv3 : Dt (fun a => a = p) H1 (.list (t.map .int)) v := by
      obtain ⟨a, xs, rfl, na, hla, ra⟩ := hv.listy
      refine Dt.lst (fun e => ?_) ((e01.ext a _ (fun z => z) hla)) (by rw [ra.ints]; exact dta_ints t)
      rw [e, hp] at hla
      cases hla
    exact ⟨_, rfl, _, t, rfl, (hv3.le e (nW _)).no, by omega, hb, fun u H' e' r' => q u H' (Le.of_ex e'.ex e.ok) (r'.weak (nkp.le e).domle)⟩
  have lp : ((partsI t).map fun c => PyData.tuple (c.map .int)).length = (clusP t).length := by rw [List.length_map, parts_clen]
  have lc := clusP_len t
  refine q_forLe (R := R0.plus p) (Re := R0) (N := fun a => a = p) pe trivial nP fun H2 e2 => ⟨fun i σ' H' => (∃ a b, σ' = [some v, some (.ref p), some (.int (begK t i : Nat)), a, b]) ∧ Le (R0.plus p) H2 H' ∧ Le R0 H H' ∧ ∃ us, H' p = some (.lst us) ∧ DtA No H' (((clusP t).take i).map pairD) us, ⟨⟨none, none, rfl⟩, Le.refl ⟨trivial, fun z => z, _, e2.ext p _ (fun z => z) h1⟩, e01.trans e2, [], e2.ext p _ (fun z => z) h1, .nil⟩, fun i σ' H' q => q.2.1, fun i x w σ' H' hi q r => ?_, fun σ' H' q => ?_⟩
  · obtain ⟨⟨a, b, rfl⟩, l2, l0, us, hu, ru⟩ := q
    obtain ⟨c, hc, rfl⟩ : ∃ c, (partsI t)[i]? = some c ∧ x = .tuple (c.map .int) := by
      rw [List.getElem?_map] at hi
      cases e : (partsI t)[i]? with
      | none => rw [e] at hi; cases hi
      | some c => rw [e] at hi; exact ⟨c, rfl, (Option.some.inj hi).symm⟩
    obtain ⟨q, hq, hcl, h1, h2⟩ := part_at hc
    have hil : i < (clusP t).length := (List.getElem?_eq_some_iff.1 hq).1
    have eb := begK_at hq
    have lm : (c.map PyData.int).length = c.length := List.length_map ..
    refine q_asg (R := R0) (N := No) (d := .int (begK t i : Nat)) (e_vi rfl) trivial fun y H3 e3 ry => ?_
    cases ry
    refine ⟨_, rfl, (e_lent (R := R0) (N := No) (N' := No) (ds := c.map .int) (e_var rfl (r.no.le e3 (nW _)) (nW _))) H3 (Le.refl trivial) _ fun y H4 e4 ry => ?_⟩
    cases ry
    refine ⟨_, _, rfl, rfl, ?_⟩
    have e34 := e3.trans e4
    have en : ((begK t i : Nat) : Int) + ((c.map PyData.int).length : Int) = (q.2 : Nat) := by
      rw [lm, hcl, eb]
      omega
    have ul : us.length < 100000 := by
      rw [ru.length, List.length_map, List.length_take]
      omega
    have tp : Ev R0 (tTup (tCons (tVar 4) (tCons (tVar 2) tNil))) [some v, some (.ref p), some (.int (((begK t i : Nat) : Int) + ((c.map PyData.int).length : Int))), some w, some (.int (begK t i : Nat))] H4 No (pairD q) := (e_tup (ds := [.int (begK t i : Nat), .int (((begK t i : Nat) : Int) + ((c.map PyData.int).length : Int))]) (a_cons (e_vi rfl) (a_one (e_vi rfl)) (nW _)) (nW _) (by show 2 ≤ 100000; decide)).is (by rw [en, eb]; rfl)
    refine s_appP (R := R0) (N := No) (i := 1) (p := p) (xs := us) (φp := fun d => d = pairD q) rfl (e34.ext p _ (fun z => z) hu) (fun z => z) tp.p trivial ul fun d y H5 e5 hd ry h5 => ?_
    subst hd
    have e35 := e34.trans e5
    have lf : Le R0 H (upd H5 p (.lst (us ++ [y]))) := Le.put (l0.trans e35) hp h5
    have l2' : Le (R0.plus p) H2 (upd H5 p (.lst (us ++ [y]))) := (l2.trans (e35.plus (fun z => z) hu)).setp h5
    have l3' : Le (R0.plus p) H' (upd H5 p (.lst (us ++ [y]))) := (e35.plus (fun z => z) hu).setp h5
    have l4' : Le (R0.plus p) H5 (upd H5 p (.lst (us ++ [y]))) := (Le.refl (R := R0.plus p) ⟨trivial, fun z => z, _, h5⟩).setp h5
    have nx : begK t (i + 1) = q.2 := by
      show ((clusP t).getD i (0, 0)).2 = _
      rw [List.getD_eq_getElem?_getD, hq]
      rfl
    refine ⟨⟨some w, some (.int (begK t i : Nat)), ?_⟩, l2', lf, us ++ [y], upd_same, ?_⟩
    · rw [nx, ← en]
      rfl
    · rw [take_snoc hq, List.map_append]
      refine DtA.append (pair_any ((pair_any (N' := fun a => a = p) ru).le l3' nP)) ?_
      exact pair_any (N := fun a => a = p) (ps := [q]) (DtA.le (pair_any (N := No) (ps := [q]) (.cons ry .nil)) l4' nP)
  · obtain ⟨⟨a, b, rfl⟩, l2, l0, us, hu, ru⟩ := q
    rw [lp, List.take_length] at ru
    exact ⟨_, rfl, k _ H' l0 (.lst (fun ⟨o, z⟩ => by rw [hp] at z; cases z) hu (pair_any ru))⟩
end FF
set_option Elab.async false
set_option linter.all false
set_option maxRecDepth 100000
set_option maxHeartbeats 4000000
/-! the program: runs -/
namespace FF
open PySem PySem.Spec PyProof.Rows L2
open GxR (TabB TabG Tabbed)
abbrev Run := Nat × Nat × Option Nat
def runD (r : Run) : PyData := .tuple [.int r.1, .int r.2.1, oD r.2.2]
def joins (told : List Run) (f : Option Nat) : Bool := match told.getLast? with
  | some r => decide (r.2.2 = f)
  | none => false
def runStep (told : List Run) (x : (Nat × Nat) × Option Nat) : List Run :=
  if joins told x.2 = true then told.dropLast ++ [((told.getLast?.getD (0, 0, none)).1, x.1.2, x.2)] else told ++ [(x.1.1, x.1.2, x.2)]
def runP (xs : List ((Nat × Nat) × Option Nat)) : List Run := xs.foldl runStep []
theorem run_any {N N' : Addr → Prop} {H : Hp} {ps : List Run} {vs : List V} (h : DtA N H (ps.map runD) vs) : DtA N' H (ps.map runD) vs := by
  induction ps generalizing vs with
  | nil => cases h; exact .nil
  | cons a r ih => cases h with
    | cons x t =>
      refine .cons ?_ (ih t)
      cases x with
      | tup hl ra => exact .tup hl (by cases ra with
        | cons r1 ra => cases ra with
          | cons r2 ra => cases ra with
            | cons r3 ra => cases ra; cases r1; cases r2; exact .cons (.int _) (.cons (.int _) (opts_any (r := [a.2.2]) (.cons r3 .nil))))
theorem DtA.split {N : Addr → Prop} {H : Hp} {d : PyData} : ∀ {ds : List PyData} {vs : List V}, DtA N H (ds ++ [d]) vs → ∃ us v, vs = us ++ [v] ∧ DtA N H ds us ∧ Dt N H d v
  | [], _, h => by
    cases h with
    | cons x t => cases t; exact ⟨[], _, rfl, .nil, x⟩
  | a :: ds, _, h => by
    cases h with
    | cons x t =>
      obtain ⟨us, v, rfl, h1, h2⟩ := DtA.split (ds := ds) t
      exact ⟨_ :: us, v, rfl, .cons x h1, h2⟩
theorem step_len (told : List Run) (x : (Nat × Nat) × Option Nat) : (runStep told x).length ≤ told.length + 1 := by
  unfold runStep
  split
  · rw [List.length_append, List.length_dropLast]
    show told.length - 1 + 1 ≤ _
    omega
  · rw [List.length_append]
    exact Nat.le_refl _
theorem step_not_join {told : List Run} {x : (Nat × Nat) × Option Nat} (h : joins told x.2 = false) : runStep told x = told ++ [(x.1.1, x.1.2, x.2)] := by
  unfold runStep
  rw [h, if_neg Bool.false_ne_true]
theorem step_join {l : List Run} {r : Run} {x : (Nat × Nat) × Option Nat} (h : joins (l ++ [r]) x.2 = true) : runStep (l ++ [r]) x = l ++ [(r.1, x.1.2, x.2)] := by
  unfold runStep
  rw [h, if_pos rfl, List.dropLast_concat, List.getLast?_concat]
  rfl
theorem joins_snoc (l : List Run) (r : Run) (f : Option Nat) : joins (l ++ [r]) f = decide (r.2.2 = f) := by
  unfold joins
  rw [List.getLast?_concat]
theorem fold_len (xs : List ((Nat × Nat) × Option Nat)) : ∀ l : List Run, (xs.foldl runStep l).length ≤ l.length + xs.length := by
  induction xs with
  | nil => exact fun l => Nat.le_refl _
  | cons x xs ih =>
    intro l
    have h1 := ih (runStep l x)
    have h2 := step_len l x
    rw [List.foldl_cons, List.length_cons]
    omega
theorem runP_len (xs : List ((Nat × Nat) × Option Nat)) : (runP xs).length ≤ xs.length := by
  have := fold_len xs []
  rwa [List.length_nil, Nat.zero_add] at this
def runsD (rs : List Run) : PyData := .list (rs.map runD)
def runsP (fs : List Face) (t : List Int) : List Run := runP ((clusP t).zip (shownP fs t))
def sp_runs (C : Addr) (T : List Addr) : Sp := fun vs H Q _ => ∃ (x : Addr) (v : V) (fs : List Face) (t : List Int), vs = [.ref x, v] ∧ CaseAt No C H x fs ∧ Dt No H (.list (t.map .int)) v ∧ fs.length ≤ 1000 ∧ t.length ≤ 1000 ∧ badAt t = none ∧ (Rt T).I H ∧
  ∀ u H', Le (Rt T) H H' → Dt (Dom H) H' (runsD (runsP fs t)) u → Q u H'
abbrev r_runs (K : PySem.W.Frag) (C : Addr) (T : List Addr) : TS :=
    (tSeq (tAsg (tLst tNil) (gName 2))
    (tSeq (tFor (iZip K (tCons (tCall sp_bounds [] E0 (tCons (tVar 1) tNil)) (tCons (tCall (sp_shown C T) [] E0 (tCons (tVar 0) (tCons (tVar 1) tNil))) tNil))) (gTup K 2 (gCons (gTup K 2 (gCons (gName 3) (gCons (gName 4) gNil))) (gCons (gName 5) gNil)))
      (tIfS (tAnd (tTru K (tVar 2)) (tTest (tOp (rEqD K) (tOp (rIx K) (tOp (rIx K) (tVar 2) (tUn (rU fun i => .int (-i)) (tC (.int 1)))) (tC (.int 2))) (tVar 5))))
        (tAsg (tTup (tCons (tOp (rIx K) (tOp (rIx K) (tVar 2) (tUn (rU fun i => .int (-i)) (tC (.int 1)))) (tC (.int 0))) (tCons (tVar 4) (tCons (tVar 5) tNil)))) (gSub (tVar 2) (tUn (rU fun i => .int (-i)) (tC (.int 1))) rSetL))
        (tDrop (tBM K "list" rAppend (tVar 2) (tCons (tTup (tCons (tVar 3) (tCons (tVar 4) (tCons (tVar 5) tNil)))) tNil)))))
    (tRet (tVar 2))))
/-! the rows that are shown are as long as the text's clusters -/
theorem bestP_mem (ranks : List Int) (ps : List (List Nat × Option Nat)) : bestP ranks ps ∈ leastP ranks ps := by
  unfold bestP
  have h := least_ne ranks ps
  cases e : leastP ranks ps with
  | nil => exact absurd e h
  | cons a l => exact minS_mem a l
theorem bestP_len {ranks : List Int} {ps : List (List Nat × Option Nat)} (hl : ps.length ≤ 1000) (hf : ∀ p ∈ ps, p.1.length ≤ 1000) : (bestP ranks ps).row.length = ps.length := by
  rw [(least_rws ranks ps hl hf).row (bestP_mem ranks ps)]
  unfold pats
  rw [List.length_map]
theorem shown_len {fs : List Face} {t : List Int} (hf : fs.length ≤ 1000) (hl : t.length ≤ 1000) : (shownP fs t).length = (clusP t).length := by
  have lc : (chosen fs t).length = (clusP t).length := by unfold chosen; rw [List.length_map, parts_clen]
  have h2 := clusP_len t
  have lz : ((chosen fs t).zip (List.replicate (chosen fs t).length (none : Option Nat))).length = (clusP t).length := by rw [List.length_zip, List.length_replicate, lc, Nat.min_self]
  unfold shownP
  rw [bestP_len (by rw [lz]; omega) fun p hp => ?_, lz]
  have := (List.of_mem_zip hp).1
  unfold chosen at this
  obtain ⟨c, _, e⟩ := List.mem_map.1 this
  rw [← e]
  exact Nat.le_trans (havP_len fs c) hf
section
variable {K : PySem.W.Frag} {C : Addr} {T : List Addr}
theorem e_ixn1 {R : Rg} {σ : L2.St} {H : Hp} {N : Addr → Prop} {te : TE} {l : List PyData} {x : PyData} (h : Ev R te σ H N (.list (l ++ [x]))) (hW : ∀ a, R.W a → N a) : Ev R (tOp (rIx K) te (tUn (rU fun i => .int (-i)) (tC (.int 1)))) σ H N x := e_ixl h e_neg1 hW (atI_last l x)
theorem e_eqO {R : Rg} {σ : L2.St} {H : Hp} {N : Addr → Prop} {ta tb : TE} {a b : Option Nat} (ha : Ev R ta σ H N (oD a)) (hb : Ev R tb σ H N (oD b)) (hW : ∀ a, R.W a → N a) : Ev R (tOp (rEqD K) ta tb) σ H N (.bool (decide (a = b))) := (e_eq ha hb hW (shaped_oD a) (shaped_oD b)).is (by rw [eqv_oD])
theorem rd_runs (vs : List V) (H : Hp) (Q : VK) (E : XK) (h : sp_runs C T vs H Q E) : r_runs K C T { nx := fun _ H' => Q .non H', rt := Q } (start ["case", "text", "told", "begin", "end", "face"] vs) H := by
  obtain ⟨x, v, fs, t, rfl, hc, hv, hf, hl, hb, ok, k⟩ := h
  have nW : ∀ a, (Rt T).W a → a ∈ T := fun a w => w
  have hc2 := hc.rt ok
  have hv2 : Dt (fun a => a ∈ T) H (.list (t.map .int)) v := hv.rt ok
  refine q_asgNew (R := Rt T) ok fun p H1 hp e1 h1 => ?_
  have pT : ¬ (Rt T).W p := rt_not ok hp
  have nP : ∀ a, ((Rt T).plus p).W a → a ∈ T ∨ a = p := fun a w => w
  have nkp : Nk (Rt T) (fun a => a ∈ T ∨ a = p) H1 := ⟨fun a w => .inl w, fun a h z => by
    rcases h with h | rfl
    · obtain ⟨ps, q, _⟩ := e1.ok a h
      rw [z] at q
      cases q
    · rw [h1] at z
      cases z⟩
  have sh := shown_len (fs := fs) hf hl
  have lc := clusP_len t
  have ev1 : Ev (Rt T) (tCall sp_bounds [] E0 (tCons (tVar 1) tNil)) [some (.ref x), some v, some (.ref p), none, none, none] H1 (fun a => a ∈ T ∨ a = p) (boundsD t) := fun H2 e Q q =>
    ⟨_, rfl, v, t, rfl, (hv2.le (e1.trans e) nW).no, hl, hb, fun u H' e' r => q u H' (e'.r0t e.ok) (r.weak (nkp.le e).domle)⟩
  have ev2 : Ev (Rt T) (tCall (sp_shown C T) [] E0 (tCons (tVar 0) (tCons (tVar 1) tNil))) [some (.ref x), some v, some (.ref p), none, none, none] H1 (fun a => a ∈ T ∨ a = p) (rowD (shownP fs t)) := fun H2 e Q q =>
    ⟨_, rfl, _, rfl, x, v, fs, t, rfl, (hc2.le (e1.trans e) nW).weak fun a z => z.elim, (hv2.le (e1.trans e) nW).no, hf, hl, hb, e.ok, fun u H' e' r => q u H' e' (r.weak (nkp.le e).domle)⟩
  refine q_forZz (R := (Rt T).plus p) (Re := Rt T) (N0 := fun a => a ∈ T ∨ a = p) (n := (clusP t).length) (as := (clusP t).map pairD) (bs := (shownP fs t).map oD) (a_cons ev1 (a_one ev2) fun a w => .inl w) e1.ok nP (by rw [List.length_map, List.length_map, sh, Nat.min_self]) fun H2 e2 => ⟨fun i σ' H' => (∃ a b c, σ' = [some (.ref x), some v, some (.ref p), a, b, c]) ∧ Le ((Rt T).plus p) H2 H' ∧ Le (Rt T) H H' ∧ ∃ us, H' p = some (.lst us) ∧ DtA No H' ((runP (((clusP t).zip (shownP fs t)).take i)).map runD) us, ⟨⟨none, none, none, rfl⟩, Le.refl ⟨e2.ok, pT, _, e2.ext p _ pT h1⟩, e1.trans e2, [], e2.ext p _ pT h1, .nil⟩, fun i σ' H' q => q.2.1, fun i y z u w σ' H' H'' hi hj q l1 ry rz => ?_, fun σ' H' q => ?_⟩
  · obtain ⟨⟨a, b, c, rfl⟩, l2, l0, us, hu, ru⟩ := q
    obtain ⟨q, hq, rfl⟩ : ∃ q, (clusP t)[i]? = some q ∧ y = pairD q := by
      rw [List.getElem?_map] at hi
      cases e : (clusP t)[i]? with
      | none => rw [e] at hi; cases hi
      | some q => rw [e] at hi; exact ⟨q, rfl, (Option.some.inj hi).symm⟩
    obtain ⟨f, hf, rfl⟩ : ∃ f, (shownP fs t)[i]? = some f ∧ z = oD f := by
      rw [List.getElem?_map] at hj
      cases e : (shownP fs t)[i]? with
      | none => rw [e] at hj; cases hj
      | some f => rw [e] at hj; exact ⟨f, rfl, (Option.some.inj hj).symm⟩
    have hzi : ((clusP t).zip (shownP fs t))[i]? = some (q, f) := List.getElem?_zip_eq_some.2 ⟨hq, hf⟩
    have hil : i < (clusP t).length := (List.getElem?_eq_some_iff.1 hq).1
    have stp : runP (((clusP t).zip (shownP fs t)).take (i + 1)) = runStep (runP (((clusP t).zip (shownP fs t)).take i)) (q, f) := by
      unfold runP
      rw [take_snoc hzi, List.foldl_append]
      rfl
    have lru := runP_len (((clusP t).zip (shownP fs t)).take i)
    rw [List.length_take] at lru
    obtain ⟨told, etold⟩ : ∃ told, runP (((clusP t).zip (shownP fs t)).take i) = told := ⟨_, rfl⟩
    rw [etold] at ru lru stp
    obtain ⟨at_, xs, rfl, ht, ra⟩ := ry.tupy
    cases ra with
    | cons r1 ra => cases ra with
      | cons r2 ra =>
        cases ra; cases r1; cases r2
        refine ⟨at_, _, rfl, SqT.of ht, rfl, _, _, rfl, _, _, rfl, rfl, _, _, rfl, rfl, ?_⟩
        show tIfS _ _ _ _ [some (.ref x), some v, some (.ref p), some (.int (q.1 : Nat)), some (.int (q.2 : Nat)), some w] H''
        have okT : (Rt T).I H' := l0.ok
        have lt : Le (Rt T) H' H'' := Le.of_ex l1 okT
        have hu2 : H'' p = some (.lst us) := l1 p _ hu
        have l02 := l0.trans lt
        have l22 : Le ((Rt T).plus p) H2 H'' := l2.trans (lt.plus pT hu)
        have ru2 : DtA (fun a => a ∈ T) H'' (told.map runD) us := run_any ((run_any (N' := fun a => a ∈ T) ru).le lt nW)
        have rz2 : Dt (fun a => a ∈ T) H'' (oD f) w := rz.weak fun a z => .inl z
        have evT : ∀ {H3 : Hp}, Le (Rt T) H'' H3 → Ev (Rt T) (tVar 2) [some (.ref x), some v, some (.ref p), some (.int (q.1 : Nat)), some (.int (q.2 : Nat)), some w] H3 (fun a => a ∈ T) (.list (told.map runD)) := fun e => e_var rfl ((Dt.lst (pT) hu2 ru2).le e nW) nW
        have evF : ∀ {H3 : Hp}, Le (Rt T) H'' H3 → Ev (Rt T) (tVar 5) [some (.ref x), some v, some (.ref p), some (.int (q.1 : Nat)), some (.int (q.2 : Nat)), some w] H3 (fun a => a ∈ T) (oD f) := fun e => e_var rfl (rz2.le e nW) nW
        have rfl2 : Le (Rt T) H'' H'' := Le.refl lt.ok
        have tst : EvT (Rt T) (tAnd (tTru K (tVar 2)) (tTest (tOp (rEqD K) (tOp (rIx K) (tOp (rIx K) (tVar 2) (tUn (rU fun i => .int (-i)) (tC (.int 1)))) (tC (.int 2))) (tVar 5)))) [some (.ref x), some v, some (.ref p), some (.int (q.1 : Nat)), some (.int (q.2 : Nat)), some w] H'' (joins told f) := by
          refine (t_and (a := !(told.map runD).isEmpty) (b := joins told f) (t_trul (evT rfl2)) fun c => ?_).is ?_
          · have ne : told ≠ [] := fun e => by rw [e] at c; cases c
            obtain ⟨l, r, er⟩ : ∃ l r, told = l ++ [r] := ⟨_, _, (List.dropLast_concat_getLast ne).symm⟩
            have ev := evT rfl2
            rw [er, List.map_append] at ev
            rw [er, joins_snoc]
            exact t_cmp (e_eqO (e_ixt (i := 2) (e_ixn1 ev nW) e_int nW rfl) (evF rfl2) nW)
          · cases told with
            | nil => rfl
            | cons a l => rfl
        have app : ∀ (H3 : Hp), Le (Rt T) H'' H3 → ∀ us2 : List V, DtA No H3 ((runStep told (q, f)).map runD) us2 → (∃ a b c, [some (V.ref x), some v, some (.ref p), some (.int (q.1 : Nat)), some (.int (q.2 : Nat)), some w] = [some (.ref x), some v, some (.ref p), a, b, c]) ∧ Le ((Rt T).plus p) H2 (upd H3 p (.lst us2)) ∧ Le (Rt T) H (upd H3 p (.lst us2)) ∧ ∃ us, upd H3 p (.lst us2) p = some (.lst us) ∧ DtA No (upd H3 p (.lst us2)) ((runP (((clusP t).zip (shownP fs t)).take (i + 1))).map runD) us := fun H3 e us2 r => by
          have h3 := e.ext p _ pT hu2
          have l4 : Le ((Rt T).plus p) H3 (upd H3 p (.lst us2)) := (Le.refl (R := (Rt T).plus p) (H := H3) ⟨e.ok, pT, _, h3⟩).setp h3
          refine ⟨⟨_, _, _, rfl⟩, (l22.trans (e.plus pT hu2)).setp h3, (l02.trans e).put hp h3, us2, upd_same, ?_⟩
          rw [stp]
          exact run_any ((run_any (N' := fun a => a ∈ T ∨ a = p) r).le l4 nP)
        refine s_if (R := Rt T) tst lt.ok (fun c H3 e3 => ?_) (fun c H3 e3 => ?_)
        · have ne : told ≠ [] := fun e => by rw [e] at c; cases c
          obtain ⟨l, r, el⟩ : ∃ l r, told = l ++ [r] := ⟨_, _, (List.dropLast_concat_getLast ne).symm⟩
          have ev := evT e3
          rw [el, List.map_append] at ev
          rw [el] at c app ru2
          have sj := step_join (x := (q, f)) c
          have tp : Ev (Rt T) (tTup (tCons (tOp (rIx K) (tOp (rIx K) (tVar 2) (tUn (rU fun i => .int (-i)) (tC (.int 1)))) (tC (.int 0))) (tCons (tVar 4) (tCons (tVar 5) tNil)))) [some (.ref x), some v, some (.ref p), some (.int (q.1 : Nat)), some (.int (q.2 : Nat)), some w] H3 (fun a => a ∈ T) (runD (r.1, q.2, f)) := (e_tup (ds := [.int r.1, .int q.2, oD f]) (a_cons (e_ixt (i := 0) (e_ixn1 ev nW) e_int nW rfl) (a_cons (e_vi rfl) (a_one (evF e3)) nW) nW) nW (by show 3 ≤ 100000; decide)).is rfl
          refine tp H3 (Le.refl e3.ok) _ fun y H4 e4 ry => ?_
          have e34 := e3.trans e4
          have h4 := e34.ext p _ pT hu2
          have lus : us.length = l.length + 1 := by rw [ru2.length, List.length_map, List.length_append]; rfl
          refine ⟨_, rfl, 1, rfl, p, us, -1, l.length, rfl, rfl, h4, ?_, ?_⟩
          · rw [lus]
            unfold ixN
            rw [if_neg (by decide), if_pos (by omega)]
            exact congrArg some (by omega)
          · refine app H4 e34 _ ?_
            rw [sj, List.map_append]
            rw [List.map_append] at ru2
            obtain ⟨us0, y0, eus, r0, _⟩ := ru2.split
            have l0' : us0.length = l.length := by rw [r0.length, List.length_map]
            rw [eus, ← l0', List.set_append_right _ _ (Nat.le_refl _), Nat.sub_self]
            exact DtA.append (run_any (r0.le e34 nW)) (run_any (ps := [(r.1, q.2, f)]) (.cons ry .nil))
        · have sn := step_not_join (x := (q, f)) c
          have tp : Ev (Rt T) (tTup (tCons (tVar 3) (tCons (tVar 4) (tCons (tVar 5) tNil)))) [some (.ref x), some v, some (.ref p), some (.int (q.1 : Nat)), some (.int (q.2 : Nat)), some w] H3 (fun a => a ∈ T) (runD (q.1, q.2, f)) := (e_tup (ds := [.int q.1, .int q.2, oD f]) (a_cons (e_vi rfl) (a_cons (e_vi rfl) (a_one (evF e3)) nW) nW) nW (by show 3 ≤ 100000; decide)).is rfl
          refine s_appP (R := Rt T) (N := fun a => a ∈ T) (i := 2) (p := p) (xs := us) (φp := fun d => d = runD (q.1, q.2, f)) rfl (e3.ext p _ pT hu2) pT tp.p e3.ok (by rw [ru2.length, List.length_map]; omega) fun d y H5 e5 hd ry h5 => ?_
          subst hd
          refine app H5 (e3.trans e5) _ ?_
          rw [sn, List.map_append]
          exact DtA.append (run_any (ru2.le (e3.trans e5) nW)) (run_any (ps := [(q.1, q.2, f)]) (.cons ry .nil))
  · obtain ⟨⟨a, b, c, rfl⟩, l2, l0, us, hu, ru⟩ := q
    rw [List.take_of_length_le (by rw [List.length_zip]; omega)] at ru
    exact ⟨_, rfl, k _ H' l0 (.lst (fun ⟨o, z⟩ => by rw [hp] at z; cases z) hu (run_any ru))⟩
end
end FF
set_option Elab.async false
set_option linter.all false
set_option maxRecDepth 100000
set_option maxHeartbeats 4000000
/-! any of a list of lists; chains of four; a captured name in what is walked -/
namespace FF
open PySem PySem.Spec PyProof.Rows L2
open GxR (TabB TabG Tabbed GenS keeps_refl keeps_tok)
def rAnyD (K : PySem.W.Frag) : List V → Hp → VK → Prop := fun vs H Q => ∃ (a : Addr) (xs : List V) (ds : List PyData), vs = [V.ref a] ∧ SqL K H a xs ∧ DpAll K H xs ds ∧ PyData.plainAll ds = true ∧ (∀ x ∈ ds, x.fits63) ∧ Q (.bl (ds.any PyData.truthy)) H
section
variable {X : Cx} {ta tb tc te : TE} {a b c e : Expr} {pos : Pos}
theorem cr_anyD (hc : X.calm = true) : CallR X (.builtin "any") (rAnyD X.K) := by
  intro pins s σ H vs us Q I r h
  obtain ⟨a, xs, ds, rfl, hs, hd, hp, hf, q⟩ := h
  obtain ⟨its, rv, hl, hz⟩ := I.list hs
  rw [Vals.ref1 r]
  obtain ⟨as, hr⟩ := Dp.readsAll I ds xs its hd rv
  exact PySem.W.any_list_data (I.ok.hd hc) hl.isList (vs := its.toArray) (xs := ds) (as := as) (by simpa using hr) hp hf fun h' tk kp => ⟨.bl _, H, I.kept kp, rfl, q⟩
/-- a op1 b op2 c op3 d as a test -/
def tChain3 (r r' r'' : R2) (ta tb tc te : TE) : TE := fun σ H Q => ta σ H fun x H1 => tb σ H1 fun y H2 => r x y H2 fun z H3 => ∃ k, z = .bl k ∧
  (if k = true then tc σ H3 fun w' H4 => r' y w' H4 fun z2 H5 => ∃ k2, z2 = .bl k2 ∧ (if k2 = true then te σ H5 fun w2 H6 => r'' w' w2 H6 Q else Q (.bl false) H5) else Q (.bl false) H3)
theorem pt_chain3 {op op' op'' : CmpOp} {r r' r'' : R2} (ho : OpR X (compareOp op) r) (ho' : OpR X (compareOp op') r') (ho'' : OpR X (compareOp op'') r'') (ha : PE X a ta) (hb : PE X b tb) (hc : PE X c tc) (he : PE X e te)
    (hm : lastMarks [op, op', op''] [b, c, e] = false := by with_unfolding_all rfl) : PT X (.Compare a [op, op', op''] [b, c, e] pos) (tTest (tChain3 r r' r'' ta tb tc te)) := by
  refine ⟨fun pins s σ H Q I h => ?_⟩
  refine isTrue_chain (thn (ha.run pins s σ H _ I h) fun v s1 ⟨x, H1, I1, r1, q1⟩ => test_link (thn (hb.run pins s1 σ H1 _ I1 q1) fun u s2 ⟨y, H2, I2, r2, q2⟩ =>
    thn (ho pins s2 σ H2 x y v u _ I2 r1 r2 q2) fun d s3 ⟨z, H3, I3, r3, k, e, q3⟩ => ?_)) hm
  subst e
  cases r3
  refine wpAny_truthy_bool ?_
  cases k with
  | false =>
    obtain ⟨k', e', q'⟩ := q3
    cases e'
    exact ite_ff ⟨H3, I3, q'⟩
  | true =>
    refine ite_tt (test_link (thn (hc.run pins s3 σ H3 _ I3 q3) fun w' s4 ⟨z', H4, I4, r4, q4⟩ => thn (ho' pins s4 σ H4 y z' u w' _ I4 r2 r4 q4) fun d' s5 ⟨z2, H5, I5, r5, k2, e2, q5⟩ => ?_))
    subst e2
    cases r5
    refine wpAny_truthy_bool ?_
    cases k2 with
    | false =>
      obtain ⟨k', e', q'⟩ := q5
      cases e'
      exact ite_ff ⟨H5, I5, q'⟩
    | true =>
      refine ite_tt (test_last (thn (he.run pins s5 σ H5 _ I5 q5) fun w2 s6 ⟨z3, H6, I6, r6, q6⟩ => thn (ho'' pins s6 σ H6 z' z3 w' w2 _ I6 r4 r6 q6) fun d2 s7 ⟨z4, H7, I7, r7, k3, e3, q7⟩ => ?_))
      subst e3
      cases r7
      exact wpAny_truthy_bool ⟨H7, I7, q7⟩
/-- y in x: y a captured whole number, x each of the lists that are walked -/
def cRev (K : PySem.W.Frag) (j : Nat) : L2.St → Hp → V → List Bool → Prop := fun σ H v bs => ∃ (a : Addr) (as : List Addr) (nss : List (List Int)) (n : Int), v = .ref a ∧ SqL K H a (as.map V.ref) ∧ as.length = nss.length ∧ (∀ (i : Nat) (c : Addr) (ns : List Int), as[i]? = some c → nss[i]? = some ns → SqL K H c (ns.map V.int)) ∧ σ[j]? = some (some (.int n)) ∧ bs = nss.map fun ns => decide (n ∈ ns)
theorem elt_rev {P : Addr} {scope : Scope} {x y : Str} {j : Nat} {p1 p2 p3 : Pos} (S : GenK X.env.scope scope x) (hN : X.N[j]? = some y) (hy : X.env.scope.names.lookup y = some .cell ∨ X.env.scope.names.lookup y = some .free) (hf : scope.names.lookup y = some .free) (hdx : (x == ("__debug__" : Str)) = false := by decide) (hdy : (y == ("__debug__" : Str)) = false := by decide) (hcy : (y == ("__classdict__" : Str)) = false := by decide) :
    EltOk X P scope x (.Compare (.Name y p1) [.In] [.Name x p2] p3) (cRev X.K j) := by
  rintro pins σ H1 v bs u s1 ⟨a, as, nss, n, rfl, hq, hln, hall, hj, rfl⟩ ht I1 r
  cases r
  obtain ⟨its, rv, src⟩ := src_list I1 hq ht
  have hl : its.length = as.length := by rw [← rv.length, List.length_map]
  refine ⟨_, by rw [List.length_map, ← hln]; rw [List.length_map] at src; exact src, fun i v' hv => ?_, fun cenv A' E' i v' s₂ m₂ G hv hn hmx => ?_⟩
  · rw [List.length_map, ← hln, ← hl]
    exact (List.getElem?_eq_some_iff.1 hv).1
  · have hi : i < as.length := by rw [← hl]; exact (List.getElem?_eq_some_iff.1 hv).1
    have hin : i < nss.length := by omega
    obtain ⟨w, hw, rw'⟩ := rv.get (i := i) (x := .ref as[i]) (by rw [List.getElem?_map, List.getElem?_eq_getElem hi]; rfl)
    rw [hv] at hw
    cases hw
    cases rw'
    have hq2 := hall i as[i] nss[i] (List.getElem?_eq_getElem hi) (List.getElem?_eq_getElem hin)
    have kx : cenv.kindOf x = some .local := by show cenv.scope.names.lookup x = _; rw [G.sc]; exact S.loc
    have ky : cenv.kindOf y = some .free := by show cenv.scope.names.lookup y = _; rw [G.sc]; exact hf
    have hk : cenv.scope.kind = .function := by rw [G.sc]; exact S.kind
    obtain ⟨ps, hP, _⟩ := ht
    have hPs : s1.heap.get? P = some { cls := .none, data := .fields ps } := I1.hok P _ hP
    have kpd : ∀ b o, (∀ q, o.data ≠ .fields q) → s1.heap.get? b = some o → s₂.heap.get? b = some o := fun b o nf e => G.kp b o (fun z => by rw [z, hPs] at e; cases e; exact nf _ rfl) e
    obtain ⟨m, hns, hlk⟩ := I1.loc
    obtain ⟨u2, ru, lk⟩ := hlk j y (.int n) hN hj (.inr hy)
    have ru' := ru
    obtain ⟨tk, rfl⟩ := ru
    obtain ⟨c, hc, hcell⟩ : ∃ c, X.env.cells.lookup y = some c ∧ s1.heap.IsCell c (some (.int n tk)) := by
      rcases lk with ⟨k1, _⟩ | ⟨_, q⟩
      · exfalso
        have k1' : X.env.scope.names.lookup y = some .local := k1
        rcases hy with z | z <;> rw [z] at k1' <;> cases k1'
      · exact q
    have hc2 : cenv.cells.lookup y = some c := by
      rw [G.cells]
      exact NdefX.clo_has (S.has I1.ok) (PySem.mem_of_lookup hf) hc
    have hcell2 : s₂.heap.IsCell c (some (.int n tk)) := by
      obtain ⟨o, e, d⟩ := hcell
      exact ⟨o, kpd _ _ (fun q z => by rw [d] at z; cases z) e, d⟩
    refine wpAny_Compare1 ?_
    refine wpAny_Name (wpAny_loadName_free hk ky hc2 hcell2 ?_ hcy) hdy
    refine wpAny_Name (wpAny_loadName_local hk kx hn hmx ?_) hdx
    obtain ⟨jts, r2, pl, hz⟩ := I1.list hq2
    have pl2 : s₂.heap.IsList as[i] jts.toArray := by
      obtain ⟨o, e, hc, n, hd⟩ := pl.isList
      exact ⟨o, kpd _ _ (fun q z => by rw [hd] at z; cases z) e, hc, n, hd⟩
    have fin : Value.bool (jts.toArray.any (eqU (.int n))) = .bool (trB (nss.map fun ns => decide (n ∈ ns)) i) := by
      rw [show jts.toArray.any (eqU (.int n)) = jts.any (eqU (.int n)) by simp, any_eqU r2 (flat_ints nss[i])]
      unfold trB
      rw [List.getD_eq_getElem?_getD, List.getElem?_map, List.getElem?_eq_getElem hin]
      exact congrArg Value.bool (inV_ints n nss[i])
    exact SeqAt.in_listAt (eqU (.int n)) pl2 (fun w' hw' => mem_eqAt ru' rfl r2 (flat_ints nss[i]) w' (by simpa using hw')) ⟨fin, keeps_refl _⟩
end
end FF
set_option Elab.async false
set_option linter.all false
set_option maxRecDepth 100000
set_option maxHeartbeats 4000000
/-! the program: torn stretches, holds -/
namespace FF
open PySem PySem.Spec PyProof.Rows L2
open GxR (TabB TabG Tabbed)
def inAll (cs : List (List Nat)) (f : Nat) : Bool := cs.all fun fs => decide (f ∈ fs)
def tornP (cs : List (List Nat)) : Bool := cs.any (fun fs => !fs.isEmpty) && ((cs.headD []).filter (inAll cs)).isEmpty
theorem refs_of {N : Addr → Prop} {H : Hp} : ∀ {cs : List (List Nat)} {xs : List V}, DtA N H (cs.map natsD) xs → ∃ as : List Addr, xs = as.map V.ref ∧ as.length = cs.length ∧ ∀ (i : Nat) (c : Addr) (fs : List Nat), as[i]? = some c → cs[i]? = some fs → H c = some (.lst ((fs.map fun n : Nat => (n : Int)).map V.int))
  | [], _, h => by cases h; exact ⟨[], rfl, rfl, fun i c fs e => by simp at e⟩
  | fs :: cs, _, h => by
    cases h with
    | cons x t =>
      obtain ⟨as, rfl, hl, ha⟩ := refs_of t
      unfold natsD at x
      rw [show (fs.map fun n : Nat => PyData.int (n : Int)) = (fs.map fun n : Nat => (n : Int)).map .int by rw [List.map_map]; rfl] at x
      obtain ⟨a, ys, rfl, na, hy, ry⟩ := x.listy
      rw [ry.ints] at hy
      refine ⟨a :: as, rfl, by rw [List.length_cons, hl]; rfl, fun i c fs' e1 e2 => ?_⟩
      cases i with
      | zero => cases e1; cases e2; exact hy
      | succ i => exact ha i c fs' e1 e2
def sp_is_torn (T : List Addr) : Sp := fun vs H Q _ => ∃ (v : V) (cs : List (List Nat)), vs = [v] ∧ Dt No H (chosenD cs) v ∧ cs ≠ [] ∧ cs.length ≤ 1000 ∧ (∀ fs ∈ cs, fs.length ≤ 1000) ∧ (Rt T).I H ∧ ∀ H', Le (Rt T) H H' → Q (.bl (tornP cs)) H'
abbrev r_is_torn (K : PySem.W.Frag) (P : Addr) : TS :=
    (tSeq (tAsg (tLc (iList K (tOp (rIx K) (tVar 0) (tC (.int 0)))) (gName 2) (tTru K (tAllG P (cRev K 2) (tVar 0))) (tVar 2) [2]) (gName 1))
    (tRet (tAndV (tCB (rAnyD K) (tCons (tVar 0) tNil)) (tNotT K (tVar 1)))))
theorem e_notl {R : Rg} {K : PySem.W.Frag} {σ : L2.St} {H : Hp} {N N' : Addr → Prop} {te : TE} {ds : List PyData} (h : Ev R te σ H N (.list ds)) : Ev R (tNotT K te) σ H N' (.bool ds.isEmpty) := fun H1 e Q q => h H1 e _ fun v H2 e2 r => by
  obtain ⟨a, xs, rfl, na, hl, ra⟩ := r.listy
  refine ⟨!xs.isEmpty, .inl ⟨xs, SqL.of hl, rfl⟩, ?_⟩
  have : ds.isEmpty = xs.isEmpty := by cases ra <;> rfl
  rw [Bool.not_not, ← this]
  exact q _ H2 e2 (.bl _)
theorem e_anyD {R : Rg} {K : PySem.W.Frag} {σ : L2.St} {H : Hp} {N N' : Addr → Prop} {te : TE} {ds : List PyData} (h : Ev R te σ H N (.list ds)) (hp : PyData.plainAll ds = true) (hf : ∀ x ∈ ds, x.fits63) : Ev R (tCB (rAnyD K) (tCons te tNil)) σ H N' (.bool (ds.any PyData.truthy)) := fun H1 e Q q => h H1 e _ fun v H2 e2 r => by
  obtain ⟨a, xs, rfl, na, hl, ra⟩ := r.listy
  exact ⟨a, xs, ds, rfl, SqL.of hl, ra.dp K, hp, hf, q _ H2 e2 (.bl _)⟩
theorem filter_getD (l : List Nat) (p : Nat → Bool) (g : Nat → PyData) : ((List.range l.length).filter fun i => p (l.getD i 0)).map (fun i => g (l.getD i 0)) = (l.filter p).map g := by
  have e := PySem.W.getD_map 0 l
  conv => rhs; rw [← e]
  rw [List.filter_map, List.map_map]
  rfl
theorem plain_nats (cs : List (List Nat)) : PyData.plainAll (cs.map natsD) = true := by
  have h1 : ∀ ns : List Nat, PyData.plainAll (ns.map fun n : Nat => PyData.int (n : Int)) = true := fun ns => by
    induction ns with
    | nil => rfl
    | cons a l ih => rw [List.map_cons, PyData.plainAll, ih]; rfl
  induction cs with
  | nil => rfl
  | cons a l ih =>
    rw [List.map_cons, PyData.plainAll, ih]
    unfold natsD
    rw [PyData.plain, h1]
    rfl
theorem any_nats (cs : List (List Nat)) : (cs.map natsD).any PyData.truthy = cs.any fun fs => !fs.isEmpty := by
  rw [List.any_map]
  congr 1
  funext fs
  show (!(fs.map fun n : Nat => PyData.int (n : Int)).isEmpty) = _
  rw [List.isEmpty_map]
theorem rd_is_torn {K : PySem.W.Frag} {T : List Addr} {P : Addr} (hP : P ∈ T) (vs : List V) (H : Hp) (Q : VK) (E : XK) (h : sp_is_torn T vs H Q E) : r_is_torn K P { nx := fun _ H' => Q .non H', rt := Q } (start ["stretch", "shared", "face"] vs) H := by
  obtain ⟨v, cs, rfl, hv, hne, hl, hf, ok, k⟩ := h
  have nW : ∀ a, (Rt T).W a → a ∈ T := fun a w => w
  have hv2 : Dt (fun a => a ∈ T) H (chosenD cs) v := hv.rt ok
  have nk := Nk.dom ok
  obtain ⟨hd, tl, rfl⟩ : ∃ hd tl, cs = hd :: tl := by
    cases cs with
    | nil => exact absurd rfl hne
    | cons a l => exact ⟨a, l, rfl⟩
  have hdl := hf hd (List.mem_cons_self ..)
  have lh : (hd.map fun n : Nat => PyData.int (n : Int)).length = hd.length := List.length_map ..
  have ev0 : Ev (Rt T) (tOp (rIx K) (tVar 0) (tC (.int 0))) [some v, none, none] H (fun a => a ∈ T) (.list (hd.map fun n : Nat => PyData.int (n : Int))) := e_ixl (i := 0) (ds := (hd :: tl).map natsD) (e_var rfl hv2 nW) e_int nW (show atI _ ((0 : Nat) : Int) = _ from atI_nat rfl)
  refine q_asg (R := Rt T) (N := Dom H) (d := natsD (hd.filter (inAll (hd :: tl)))) (EvP.ev ((p_lcL (N0 := fun a => a ∈ T) (ds := hd.map fun n : Nat => PyData.int (n : Int)) (fun i o => o = if inAll (hd :: tl) (hd.getD i 0) = true then some (.int ((hd.getD i 0 : Nat) : Int)) else none) ev0 nW (by rw [lh]; omega) nk (fun _ => rfl) fun i x w D H1 hD e1 nk1 hi r => ?_).imp fun d o => ?_)) ok fun u H2 e2 ru => ?_
  · obtain ⟨f, hfi, rfl⟩ : ∃ f, hd[i]? = some f ∧ x = .int (f : Nat) := by
      rw [List.getElem?_map] at hi
      cases e : hd[i]? with
      | none => rw [e] at hi; cases hi
      | some c => rw [e] at hi; exact ⟨c, rfl, (Option.some.inj hi).symm⟩
    cases r
    have gd : hd.getD i 0 = f := by rw [List.getD_eq_getElem?_getD, hfi]; rfl
    rw [gd]
    refine f_det (t_trub (N := No) (e_allG (N := fun a => a ∈ T) (d := chosenD (hd :: tl)) (rt_has hP) (e_var rfl (hv2.le e1 nW) nW) fun H3 w e3 r3 => ?_)) fun _ => e_vi rfl
    obtain ⟨a, xs, rfl, na, hla, ra⟩ := r3.listy
    obtain ⟨as, rfl, hln, hall⟩ := refs_of ra
    refine ⟨_, ⟨a, as, (hd :: tl).map fun fs => fs.map fun n : Nat => (n : Int), f, rfl, SqL.of hla, by rw [List.length_map, hln], fun i c ns hc hn => ?_, rfl, rfl⟩, ?_⟩
    · rw [List.getElem?_map] at hn
      cases e : (hd :: tl)[i]? with
      | none => rw [e] at hn; cases hn
      | some fs => rw [e] at hn; cases hn; exact SqL.of (hall i c fs hc e)
    · rw [List.all_map, List.all_map]
      unfold inAll
      congr 1
      funext fs
      show decide ((f : Int) ∈ fs.map fun n : Nat => (n : Int)) = decide (f ∈ fs)
      refine decide_eq_decide.2 ⟨fun h => ?_, fun h => List.mem_map.2 ⟨f, h, rfl⟩⟩
      obtain ⟨g, hg, e⟩ := List.mem_map.1 h
      rw [← Int.ofNat.inj e]
      exact hg
  · have q := out_det (f := fun i => inAll (hd :: tl) (hd.getD i 0)) (g := fun i => PyData.int ((hd.getD i 0 : Nat) : Int)) o
    rw [q, lh]
    unfold natsD
    exact congrArg PyData.list (filter_getD hd (inAll (hd :: tl)) fun n : Nat => PyData.int (n : Int))
  · refine s_ret (R := Rt T) (N := No) (d := .bool (tornP (hd :: tl))) ((e_andV (e_anyD (K := K) (N := fun a => a ∈ T) (ds := (hd :: tl).map natsD) (e_var rfl (hv2.le e2 nW) nW) (plain_nats _) fun x hx => ?_) fun _ => e_notl (N := Dom H) (ds := (hd.filter (inAll (hd :: tl))).map fun n : Nat => PyData.int (n : Int)) (e_var rfl ru nk.sub)).is ?_) e2.ok fun w H3 e3 rw_ => by cases rw_; exact k H3 (e2.trans e3)
    · obtain ⟨fs, hfs, rfl⟩ := List.mem_map.1 hx
      have := hf fs hfs
      show ((fs.map fun n : Nat => PyData.int (n : Int)).length : Int) < 2 ^ 63
      rw [List.length_map]
      omega
    · rw [any_nats, List.isEmpty_map]
      rfl
end FF
set_option Elab.async false
set_option linter.all false
set_option maxRecDepth 100000
set_option maxHeartbeats 4000000
/-! the program: holds -/
namespace FF
open PySem PySem.Spec PyProof.Rows L2
open GxR (TabB TabG Tabbed)
abbrev rLe3 : R2 := rI0 fun i j => .bl (decide (i ≤ j))
abbrev rLt3 : R2 := rI0 fun i j => .bl (decide (i < j))
section
variable {R : Rg} {K : PySem.W.Frag} {σ : L2.St} {H : Hp} {N : Addr → Prop} {D : Ends} {ta tb tc te : TE} {tu tz : TS} {g : TG}
theorem t_ch3 {a b c d : Int} (ha : Ev R ta σ H N (.int a)) (hb : Ev R tb σ H N (.int b)) (hc : Ev R tc σ H N (.int c)) (hd : Ev R te σ H N (.int d)) : EvT R (tTest (tChain3 rLe3 rLe3 rLt3 ta tb tc te)) σ H (decide (a ≤ b) && (decide (b ≤ c) && decide (c < d))) := fun H1 e Q q =>
  ha H1 e _ fun x H2 e2 r => hb H2 (e.trans e2) _ fun y H3 e3 r2 => by
    cases r; cases r2
    refine ⟨a, b, rfl, rfl, _, rfl, ?_⟩
    by_cases c1 : a ≤ b
    · rw [decide_eq_true c1, if_pos rfl]
      refine hc H3 ((e.trans e2).trans e3) _ fun z H4 e4 r3 => ?_
      cases r3
      refine ⟨b, c, rfl, rfl, _, rfl, ?_⟩
      by_cases c2 : b ≤ c
      · rw [decide_eq_true c2, if_pos rfl]
        refine hd H4 (((e.trans e2).trans e3).trans e4) _ fun w H5 e5 r4 => ?_
        cases r4
        refine ⟨c, d, rfl, rfl, _, rfl, ?_⟩
        have := q H5 (((e2.trans e3).trans e4).trans e5)
        rw [decide_eq_true c1, decide_eq_true c2] at this
        exact this
      · rw [decide_eq_false c2, if_neg (by decide)]
        have := q H4 ((e2.trans e3).trans e4)
        rw [decide_eq_true c1, decide_eq_false c2] at this
        exact ⟨_, rfl, this⟩
    · rw [decide_eq_false c1, if_neg (by decide)]
      have := q H3 (e2.trans e3)
      rw [decide_eq_false c1] at this
      exact ⟨_, rfl, this⟩
/-- for target in a list that an expression gives -/
theorem q_forLeG {Re : Rg} {ds : List PyData} (h : Ev Re te σ H N (.list ds)) (ok : Re.I H) (sub : ∀ a, R.W a → N a)
    (q : ∀ H1, Le Re H H1 → ∃ Pv : Nat → L2.St → Hp → Prop, Pv 0 σ H1 ∧ (∀ i σ' H', Pv i σ' H' → Le R H1 H') ∧
      (∀ i x v σ' H', ds[i]? = some x → Pv i σ' H' → Dt N H' x v → g v σ' H' fun σ2 H2 => tu { D with nx := Pv (i + 1), ct := Pv (i + 1), bk := tz D } σ2 H2) ∧ ∀ σ' H', Pv ds.length σ' H' → tz D σ' H') : tSeq (tFor (iList K te) g tu) tz D σ H := by
  refine h H (Le.refl ok) _ fun v H1 e1 r => ?_
  obtain ⟨a, xs, rfl, na, hl, ra⟩ := r.listy
  have naW : ¬ R.W a := fun w => na (sub a w)
  obtain ⟨Pv, h0, hle, hs, hd⟩ := q H1 e1
  refine ⟨a, rfl, ⟨xs, SqL.of hl⟩, for_list (D := { D with nx := tz D }) (xs := xs) Pv h0 (fun i σ' H' _ p => SqL.of ((hle i σ' H' p).ext a _ naW hl)) (fun i x σ' H' hi p => ?_) (fun σ' H' p => ?_)⟩
  · obtain ⟨dx, hdx, rx⟩ := ra.getV hi
    exact hs i dx x σ' H' hdx p (rx.le (hle i σ' H' p) sub)
  · rw [ra.length] at p
    exact hd σ' H' p
end
def sD (p : Int × Int) : PyData := .tuple [.int p.1, .int p.2]
def cutC (cs : List (List Nat)) (f l : Int) : List (List Nat) := (cs.drop f.toNat).take (l.toNat + 1 - f.toNat)
def fits (n : Nat) (a : Int) (p : Int × Int) : Bool := decide (a ≤ p.1) && (decide (p.1 ≤ p.2) && decide (p.2 < n))
def holdsP (cs : List (List Nat)) : Int → List (Int × Int) → Bool
  | _, [] => true
  | a, p :: r => fits cs.length a p && (tornP (cutC cs p.1 p.2) && holdsP cs p.2 r)
def sp_holds (C : Addr) (T : List Addr) : Sp := fun vs H Q _ => ∃ (x : Addr) (v w : V) (fs : List Face) (t : List Int) (sts : List (Int × Int)), vs = [.ref x, v, w] ∧ CaseAt No C H x fs ∧ Dt No H (.list (t.map .int)) v ∧ Dt No H (.list (sts.map sD)) w ∧ fs.length ≤ 1000 ∧ t.length ≤ 1000 ∧ sts.length ≤ 1000 ∧ badAt t = none ∧ (Rt T).I H ∧
  ∀ H', Le (Rt T) H H' → Q (.bl (holdsP (chosen fs t) 0 sts)) H'
abbrev r_holds (K : PySem.W.Frag) (C : Addr) (T : List Addr) : TS :=
    (tSeq (tAsg (tCall (sp_choices C T) [] E0 (tCons (tVar 0) (tCons (tVar 1) tNil))) (gName 3))
    (tSeq (tAsg (tC (.int 0)) (gName 4))
    (tSeq (tFor (iList K (tVar 2)) (gTup K 2 (gCons (gName 5) (gCons (gName 6) gNil))) (tSeq (tIfS (tNot (tTest (tChain3 rLe3 rLe3 rLt3 (tVar 4) (tVar 5) (tVar 6) (tCB (rLenU K) (tCons (tVar 3) tNil))))) (tRet (tC (.bl false))) tNext)
    (tSeq (tIfS (tNot (tTru K (tCall (sp_is_torn T) [] E0 (tCons (tSl (rSlU K) (tVar 3) (tPart (tVar 5)) (tPart (tOp (rAddU K) (tVar 6) (tC (.int 1))))) tNil)))) (tRet (tC (.bl false))) tNext)
    (tAsg (tVar 6) (gName 4)))))
    (tRet (tC (.bl true))))))
theorem chosen_len {fs : List Face} {t : List Int} : (chosen fs t).length ≤ t.length := by
  unfold chosen
  rw [List.length_map]
  exact parts_len t
theorem chosen_few {fs : List Face} {t : List Int} (h : fs.length ≤ 1000) : ∀ c ∈ chosen fs t, c.length ≤ 1000 := fun c hc => by
  unfold chosen at hc
  obtain ⟨p, _, rfl⟩ := List.mem_map.1 hc
  exact Nat.le_trans (havP_len fs p) h
theorem cutC_ok {cs : List (List Nat)} {f l : Nat} (h : f ≤ l) (h2 : l < cs.length) : cutC cs f l ≠ [] ∧ (cutC cs f l).length ≤ cs.length ∧ ∀ c ∈ cutC cs f l, c ∈ cs := by
  unfold cutC
  rw [Int.toNat_natCast, Int.toNat_natCast]
  have ln : ((cs.drop f).take (l + 1 - f)).length = l + 1 - f := by rw [List.length_take, List.length_drop]; omega
  exact ⟨fun e => by rw [e] at ln; simp at ln; omega, by omega, fun c hc => List.mem_of_mem_drop (List.mem_of_mem_take hc)⟩
section
variable {K : PySem.W.Frag} {C : Addr} {T : List Addr}
theorem rd_holds (vs : List V) (H : Hp) (Q : VK) (E : XK) (h : sp_holds C T vs H Q E) : r_holds K C T { nx := fun _ H' => Q .non H', rt := Q } (start ["case", "text", "stretches", "faces_of", "last_ahead", "first", "last"] vs) H := by
  obtain ⟨x, v, w, fs, t, sts, rfl, hc, hv, hw, hf, hl, hs, hb, ok, k⟩ := h
  have nW : ∀ a, (Rt T).W a → a ∈ T := fun a w => w
  have nk : Nk (Rt T) (Dom H) H := Nk.dom ok
  have hc2 := hc.rt ok
  have hv2 : Dt (fun a => a ∈ T) H (.list (t.map .int)) v := hv.rt ok
  have hw2 : Dt (fun a => a ∈ T) H (.list (sts.map sD)) w := hw.rt ok
  have ls : (sts.map sD).length = sts.length := List.length_map ..
  have cl := chosen_len (fs := fs) (t := t)
  have lcd : ((chosen fs t).map natsD).length = (chosen fs t).length := List.length_map ..
  refine q_asg (R := Rt T) (N := Dom H) (d := chosenD (chosen fs t)) (fun H1 e Q q => ⟨_, rfl, _, rfl, x, v, fs, t, rfl, (hc2.le e nW).weak fun a z => z.elim, (hv2.le e nW).no, hf, hl, hb, e.ok, fun u H' e' r => q u H' e' (r.weak (nk.le e).domle)⟩) ok fun vc H1 e1 rc => ?_
  refine q_asg (R := Rt T) (N := No) (d := .int 0) e_int e1.ok fun z H2 e2 rz => ?_
  cases rz
  have e12 := e1.trans e2
  refine q_forLeG (R := Rt T) (Re := Rt T) (N := fun a => a ∈ T) (e_var rfl (hw2.le e12 nW) nW) e2.ok nW fun H3 e3 => ⟨fun i σ' H' => (∃ (a b : Option V) (c : Int), σ' = [some (.ref x), some v, some w, some vc, some (.int c), a, b] ∧ 0 ≤ c ∧ holdsP (chosen fs t) 0 sts = holdsP (chosen fs t) c (sts.drop i)) ∧ Le (Rt T) H3 H', ⟨⟨_, _, 0, rfl, Int.le_refl _, rfl⟩, Le.refl e3.ok⟩, fun i σ' H' q => q.2, fun i y u σ' H' hi q r => ?_, fun σ' H' q => ?_⟩
  · obtain ⟨⟨a, b, c, rfl, hc0, hh⟩, l3⟩ := q
    have l0 := (e12.trans e3).trans l3
    obtain ⟨p, hp, rfl⟩ : ∃ p, sts[i]? = some p ∧ y = sD p := by
      rw [List.getElem?_map] at hi
      cases e : sts[i]? with
      | none => rw [e] at hi; cases hi
      | some c => rw [e] at hi; exact ⟨c, rfl, (Option.some.inj hi).symm⟩
    have dr : sts.drop i = p :: sts.drop (i + 1) := by
      obtain ⟨hi, e⟩ := List.getElem?_eq_some_iff.1 hp
      rw [← e]
      exact List.drop_eq_getElem_cons hi
    rw [dr, holdsP] at hh
    obtain ⟨at_, xs, rfl, ht, ra⟩ := r.tupy
    cases ra with
    | cons r1 ra => cases ra with
      | cons r2 ra =>
        cases ra; cases r1; cases r2
        refine ⟨at_, _, rfl, SqT.of ht, rfl, _, _, rfl, _, _, rfl, rfl, ?_⟩
        have rc0 : Dt (Dom H) H' (chosenD (chosen fs t)) vc := rc.le ((e2.trans e3).trans l3) nk.sub
        have evc : ∀ {H4 : Hp}, Le (Rt T) H' H4 → Ev (Rt T) (tVar 3) [some (.ref x), some v, some w, some vc, some (.int c), some (.int p.1), some (.int p.2)] H4 (Dom H) (.list ((chosen fs t).map natsD)) := fun e => e_var rfl (rc0.le e nk.sub) nk.sub
        have t1 : EvT (Rt T) (tNot (tTest (tChain3 rLe3 rLe3 rLt3 (tVar 4) (tVar 5) (tVar 6) (tCB (rLenU K) (tCons (tVar 3) tNil))))) [some (.ref x), some v, some w, some vc, some (.int c), some (.int p.1), some (.int p.2)] H' (!fits (chosen fs t).length c p) := t_not (EvT.is (t_ch3 (N := Dom H) (a := c) (b := p.1) (c := p.2) (d := ((chosen fs t).length : Nat)) (e_vi rfl) (e_vi rfl) (e_vi rfl) ((e_lenl (N := Dom H) (evc (Le.refl l0.ok))).is (by rw [lcd]))) rfl)
        refine q_if (R := Rt T) t1 l0.ok (fun c1 H4 e4 => ?_) (fun c1 H4 e4 => ?_)
        · have c1' : fits (chosen fs t).length c p = false := by cases z : fits (chosen fs t).length c p with
            | false => rfl
            | true => rw [z] at c1; cases c1
          rw [c1', Bool.false_and] at hh
          have := k H4 (l0.trans e4)
          rw [hh] at this
          exact this
        · have c1' : fits (chosen fs t).length c p = true := by cases z : fits (chosen fs t).length c p with
            | true => rfl
            | false => rw [z] at c1; cases c1
          rw [c1', Bool.true_and] at hh
          unfold fits at c1'
          rw [Bool.and_eq_true, Bool.and_eq_true, decide_eq_true_iff, decide_eq_true_iff, decide_eq_true_iff] at c1'
          obtain ⟨f, hf1⟩ : ∃ f : Nat, p.1 = f := ⟨p.1.toNat, by omega⟩
          obtain ⟨l, hl1⟩ : ∃ l : Nat, p.2 = l := ⟨p.2.toNat, by omega⟩
          have cok := cutC_ok (cs := chosen fs t) (f := f) (l := l) (by omega) (by omega)
          have l04 := l0.trans e4
          have t2 : EvT (Rt T) (tNot (tTru K (tCall (sp_is_torn T) [] E0 (tCons (tSl (rSlU K) (tVar 3) (tPart (tVar 5)) (tPart (tOp (rAddU K) (tVar 6) (tC (.int 1))))) tNil)))) [some (.ref x), some v, some w, some vc, some (.int c), some (.int p.1), some (.int p.2)] H4 (!tornP (cutC (chosen fs t) p.1 p.2)) := by
            have sl : Ev (Rt T) (tSl (rSlU K) (tVar 3) (tPart (tVar 5)) (tPart (tOp (rAddU K) (tVar 6) (tC (.int 1))))) [some (.ref x), some v, some w, some vc, some (.int c), some (.int p.1), some (.int p.2)] H4 (Dom H) (chosenD (cutC (chosen fs t) p.1 p.2)) := (e_sll (evc e4) (o_some (i := ((f : Nat) : Int)) ((e_vi rfl).is (by rw [hf1]))) (o_some (i := ((l + 1 : Nat) : Int)) ((e_add (e_vi rfl) e_int).is (by rw [hl1]; rfl))) (nk.le l04)).is (by rw [cutD_mid _ _ _ (by omega) (by rw [lcd]; omega)]; unfold chosenD cutC; rw [hf1, hl1, Int.toNat_natCast, Int.toNat_natCast, List.map_take, List.map_drop])
            refine t_not (t_trub (N := No) (e_call (a_one sl) fun H5 vs e r Q q => ?_))
            cases r with
            | cons r1 r2 =>
              cases r2
              refine ⟨_, cutC (chosen fs t) p.1 p.2, rfl, r1.no, by rw [hf1, hl1]; exact cok.1, ?_, ?_, e.ok, fun H6 e6 => q _ H6 e6 (.bl _)⟩
              · rw [hf1, hl1]; have := cok.2.1; omega
              · rw [hf1, hl1]; exact fun c hc => chosen_few hf c (cok.2.2 c hc)
          refine q_if (R := Rt T) t2 e4.ok (fun c2 H5 e5 => ?_) (fun c2 H5 e5 => ?_)
          · have c2' : tornP (cutC (chosen fs t) p.1 p.2) = false := by cases z : tornP (cutC (chosen fs t) p.1 p.2) with
              | false => rfl
              | true => rw [z] at c2; cases c2
            rw [c2', Bool.false_and] at hh
            have := k H5 (l04.trans e5)
            rw [hh] at this
            exact this
          · have c2' : tornP (cutC (chosen fs t) p.1 p.2) = true := by cases z : tornP (cutC (chosen fs t) p.1 p.2) with
              | true => rfl
              | false => rw [z] at c2; cases c2
            rw [c2', Bool.true_and] at hh
            refine s_asg (R := Rt T) (N := No) (d := .int p.2) (e_vi rfl) e5.ok fun y H6 e6 ry => ?_
            cases ry
            exact ⟨⟨_, _, p.2, rfl, by omega, hh⟩, ((l3.trans e4).trans e5).trans e6⟩
  · obtain ⟨⟨a, b, c, rfl, hc0, hh⟩, l3⟩ := q
    rw [List.drop_of_length_le (by rw [ls]; exact Nat.le_refl _)] at hh
    have := k H' ((e12.trans e3).trans l3)
    rw [hh] at this
    exact this
end
end FF
set_option Elab.async false
set_option linter.all false
set_option maxRecDepth 100000
set_option maxHeartbeats 4000000
/-! helpers of the laws about cases: drawn faces are a case; a case made; told lists changed -/
namespace FF
open PySem PySem.Spec PyProof.Rows L2
open GxR (TabB TabG Tabbed)
theorem abc_mem {c : Nat} (h : 97 ≤ c ∧ c ≤ 122) : c ∈ abc.cps.toList := by
  rw [abc_eq, S_cps]
  refine List.mem_range'.2 ⟨c - 97, by omega, by omega⟩
theorem name_ok {s : Str} (h : NameOk s) : nameB s = true := by
  obtain ⟨h1, h2, h3⟩ := h
  unfold nameB
  rw [Bool.and_eq_true, Bool.and_eq_true, decide_eq_true_iff, decide_eq_true_iff, List.all_eq_true]
  exact ⟨⟨by omega, by omega⟩, fun c hc => decide_eq_true (abc_mem (h3 c hc))⟩
theorem rise_ok : ∀ {ns : List Int}, ns.Pairwise (· < ·) → riseB ns = true
  | [], _ => rfl
  | [_], _ => rfl
  | a :: b :: l, h => by
    have h2 := rise_ok (ns := b :: l) (List.pairwise_cons.1 h).2
    unfold riseB at h2 ⊢
    rw [List.drop_one, List.tail_cons] at h2 ⊢
    rw [List.zip_cons_cons, List.all_cons, Bool.and_eq_true]
    exact ⟨decide_eq_true ((List.pairwise_cons.1 h).1 b (List.mem_cons_self ..)), h2⟩
theorem face_ok {f : Face} (h : FaceOk f) : faceB f.name f.rank f.signs = true := by
  unfold faceB signsB
  rw [Bool.and_eq_true, Bool.and_eq_true, Bool.and_eq_true, Bool.and_eq_true, Bool.and_eq_true, decide_eq_true_iff, decide_eq_true_iff, decide_eq_true_iff, all_map_id, List.all_eq_true]
  refine ⟨name_ok h.nm, h.rk, by have := h.ln; omega, fun z hz => ?_, rise_ok h.up⟩
  have := h.rg z hz
  unfold isSign
  rw [Bool.and_eq_true, decide_eq_true_iff, decide_eq_true_iff]
  omega
theorem faces_ok {fs : List Face} (h : FacesOk fs) : badF fs = none := by
  refine badF_none fun j hj => ?_
  have hf : fs.getD j default = fs[j] := by rw [List.getD_eq_getElem?_getD, List.getElem?_eq_getElem hj]; rfl
  unfold badI
  rw [hf, face_ok (h.all _ (List.getElem_mem hj)), Bool.not_true, Bool.or_false, decide_eq_false_iff_not]
  intro hm
  obtain ⟨g, hg, e⟩ := List.mem_map.1 hm
  obtain ⟨k, hk, ek⟩ := List.getElem_of_mem hg
  have hk2 : k < j := by rw [List.length_take] at hk; omega
  rw [List.getElem_take] at ek
  have hkl : k < fs.length := by omega
  refine List.pairwise_iff_getElem.1 h.nd k j (by rw [List.length_map]; exact hkl) (by rw [List.length_map]; exact hj) hk2 ?_
  rw [List.getElem_map, List.getElem_map, ek, e]
theorem faces_short {fs : List Face} (h : FacesOk fs) : NamesShort fs := fun f hf => by
  have := (h.all f hf).nm.2.1
  omega
/-- two lists that rise and hold the same are the same -/
theorem rise_eq : ∀ {a b : List Int}, a.Pairwise (· < ·) → b.Pairwise (· < ·) → (∀ z, z ∈ a ↔ z ∈ b) → a = b
  | [], [], _, _, _ => rfl
  | [], y :: b, _, _, h => absurd ((h y).2 (List.mem_cons_self ..)) (by simp)
  | x :: a, [], _, _, h => absurd ((h x).1 (List.mem_cons_self ..)) (by simp)
  | x :: a, y :: b, ha, hb, h => by
    obtain ⟨a1, a2⟩ := List.pairwise_cons.1 ha
    obtain ⟨b1, b2⟩ := List.pairwise_cons.1 hb
    have e : x = y := by
      rcases List.mem_cons.1 ((h x).1 (List.mem_cons_self ..)) with q | q
      · exact q
      · rcases List.mem_cons.1 ((h y).2 (List.mem_cons_self ..)) with r | r
        · exact r.symm
        · have := a1 y r
          have := b1 x q
          omega
    subst e
    refine congrArg (x :: ·) (rise_eq a2 b2 fun z => ⟨fun hz => ?_, fun hz => ?_⟩)
    · rcases List.mem_cons.1 ((h z).1 (List.mem_cons_of_mem _ hz)) with q | q
      · have := a1 z hz
        omega
      · exact q
    · rcases List.mem_cons.1 ((h z).2 (List.mem_cons_of_mem _ hz)) with q | q
      · have := b1 z hz
        omega
      · exact q
theorem sign_none {t : List Int} (h : ∀ z ∈ t, 0 ≤ z ∧ z < 1000) : badAt t = none := by
  unfold badAt
  refine List.findIdx?_eq_none_iff.2 fun z hz => ?_
  have := h z hz
  unfold isSign
  rw [decide_eq_true this.1, decide_eq_true (by omega : z ≤ 999)]
  rfl
section
variable {R : Rg} {K : PySem.W.Frag} {σ : L2.St} {H : Hp} {N N' : Addr → Prop} {D : Ends} {tz : TS}
/-- case = Case(list(faces)) -/
theorem q_case {C : Addr} {T : List Addr} {i j : Nat} {v : V} {fs : List Face} (hσ : σ[i]? = some (some v)) (hv : Dt No H (facesD fs) v) (hf : FacesOk fs) (ok : (Rt T).I H)
    (q : ∀ x H2, Le (Rt T) H H2 → CaseAt (Dom H) C H2 x fs → tz D (σ.set j (some (.ref x))) H2) :
    tSeq (tAsg (tMake C (sp_init C T) [] E0 (tCons (tCB (rListU K) (tCons (tVar i) tNil)) tNil)) (gName j)) tz D σ H := by
  obtain ⟨a, xs, rfl, na, ha, ra⟩ := hv.listy
  refine ⟨_, hσ, a, xs, rfl, .inl (SqL.of ha), fun lf hlf => ?_⟩
  have l1 : Le (Rt T) H (upd H lf (.lst xs)) := Le.new hlf ok
  intro x dx hx hdx ne
  have l2 : Le (Rt T) H (upd (upd H lf (.lst xs)) dx (.own x)) := l1.trans (Le.new hdx l1.ok)
  have hx2 : upd (upd H lf (.lst xs)) dx (.own x) x = none := by rw [upd_ne ne.symm]; exact hx
  have l3 : Le (Rt T) H (upd (upd (upd H lf (.lst xs)) dx (.own x)) x (.ins C dx [])) := l2.trans (Le.new hx2 l2.ok)
  have hlf3 : upd (upd (upd H lf (.lst xs)) dx (.own x)) x (.ins C dx []) lf = some (.lst xs) := by
    have n1 : lf ≠ x := fun e => by rw [← e, upd_same] at hx; cases hx
    have n2 : lf ≠ dx := fun e => by rw [← e, upd_same] at hdx; cases hdx
    rw [upd_ne n1, upd_ne n2, upd_same]
  have hx0 : H x = none := l2.back x hx2
  refine ⟨x, dx, .ref lf, fs, rfl, .lst (fun z => z) hlf3 (faces_any (faces_any (N' := fun a => a ∈ T) ra |>.le l3 fun a w => w)), upd_same, hf.ln, faces_short hf, faces_ok hf, l3.ok, fun H1 l ys e hl h1 r => ⟨rfl, ?_⟩⟩
  have lx : l ≠ x := fun z => by rw [z, upd_same] at hl; cases hl
  have l4 := (l3.trans e).putT (o := .ins C dx [("_faces", .ref l)]) hx0
  have hl0 : H l = none := l3.back l hl
  refine q x _ l4 ⟨dx, l, ys, (fun ⟨o, z⟩ => by rw [hx0] at z; cases z), (fun ⟨o, z⟩ => by rw [hl0] at z; cases z), upd_same, by rw [upd_ne lx]; exact h1, ?_⟩
  have l5 : Le R0 H1 H1 := Le.refl trivial
  refine faces_any (N := fun a => a = x) (DtA.mono (fun _ z => z) (fun b zs n hb => by rw [upd_ne n]; exact hb) (fun b zs hb => ?_) (faces_any (N' := fun a => a = x) r))
  have xT : ¬ (Rt T).W x := rt_not ok hx0
  have h1x := e.ext x _ xT upd_same
  rw [upd_ne (fun z => by rw [z, h1x] at hb; cases hb)]
  exact hb
/-- for some in told: some.append(7) -/
theorem q_spoil {H0 : Hp} {i j : Nat} {e : Addr} {xs : List V} (G : Addr → Prop) (hσ : σ[i]? = some (some (.ref e))) (he : H e = some (.lst xs)) (he0 : H0 e = none) (l0 : Le R H0 H) (hG : ∀ a, G a → ¬ R.W a)
    (hi : ∀ v ∈ xs, ∃ a ys, v = V.ref a ∧ H a = some (.lst ys) ∧ ys.length ≤ 2000 ∧ H0 a = none ∧ a ≠ e ∧ ¬ G a) (hx : xs.length ≤ 2000) (hj : j < σ.length)
    (q : ∀ z H2, Le R H0 H2 → H2 e = some (.lst xs) → (∀ a o, G a → H a = some o → H2 a = some o) → tz D (σ.set j z) H2) :
    tSeq (tFor (iList K (tVar i)) (gName j) (tDrop (tBM K "list" rAppend (tVar j) (tCons (tC (.int 7)) tNil)))) tz D σ H := by
  have eW : ¬ R.W e := notW_of l0.ok0 he0
  refine ⟨_, hσ, e, rfl, ⟨xs, SqL.of he⟩, for_list (D := { D with nx := tz D }) (xs := xs) (fun k σ' H' => (∃ z, σ' = σ.set j z) ∧ Le R H0 H' ∧ H' e = some (.lst xs) ∧ (∀ a o, G a → H a = some o → H' a = some o) ∧ ∀ v ∈ xs, ∃ a ys, v = V.ref a ∧ H' a = some (.lst ys) ∧ ys.length ≤ 2000 + k ∧ H0 a = none ∧ a ≠ e ∧ ¬ G a)
    ⟨⟨(σ[j]), by simp⟩, l0, he, fun a o _ h => h, hi⟩ (fun k σ' H' _ p => SqL.of p.2.2.1) (fun k v σ' H' hk p => ?_) (fun σ' H' p => ?_)⟩
  · obtain ⟨⟨z, rfl⟩, l1, h1, hg, hm⟩ := p
    have hkl : k < xs.length := (List.getElem?_eq_some_iff.1 hk).1
    obtain ⟨a, ys, rfl, ha, hy, ha0, ae, aG⟩ := hm v (List.mem_of_getElem? hk)
    have aW : ¬ R.W a := notW_of l0.ok0 ha0
    refine s_appZ (R := R) (φ := fun n => n = 7) (p := a) (xs := ys) (by simp [hj]) ha aW (z_of (N := No) e_int rfl) l1.ok (by omega) fun n H2 e2 hn => ?_
    subst hn
    have h2 : ∀ b o, ¬ R.W b → H' b = some o → b ≠ a → upd H2 a (.lst (ys ++ [.int 7])) b = some o := fun b o nw hb nb => by rw [upd_ne nb]; exact e2.ext b o nw hb
    refine ⟨⟨some (.ref a), by simp⟩, (l1.trans e2).put ha0 (e2.ext a _ aW ha), h2 e _ eW h1 ae.symm, fun b o gb hb => ?_, fun v hv => ?_⟩
    · exact h2 b o (hG b gb) (hg b o gb hb) fun z => aG (by rw [← z]; exact gb)
    · obtain ⟨b, zs, rfl, hb, hz, hb0, be, bG⟩ := hm v hv
      by_cases c : b = a
      · subst c
        rw [ha] at hb
        cases hb
        exact ⟨b, _, rfl, upd_same, by rw [List.length_append]; show ys.length + 1 ≤ _; omega, hb0, be, bG⟩
      · exact ⟨b, zs, rfl, h2 b _ (notW_of l0.ok0 hb0) hb c, by omega, hb0, be, bG⟩
  · obtain ⟨⟨z, rfl⟩, l1, h1, hg, _⟩ := p
    exact q z H' l1 h1 hg
end
end FF
set_option Elab.async false
set_option linter.all false
set_option maxRecDepth 100000
set_option maxHeartbeats 4000000
/-! k02: the law -/
namespace FF
open PySem PySem.Spec PyProof.Rows L2
open GxR (TabB TabG Tabbed)
abbrev r2_again (K : PySem.W.Frag) (C : Addr) (T : List Addr) (spA : Sp) : TS :=
    (tSeq (tAsg (tCall (sp_choices C T) [] E0 (tCons (tVar 6) (tCons (tVar 7) tNil))) (gName 10))
    (tSeq (tAsg (tCall (sp_missing C T) [] E0 (tCons (tVar 6) (tCons (tVar 7) tNil))) (gName 11))
    (tSeq (tIfS (tOr (tNot (tTru K (tCall spA [] E0 (tCons (tVar 10) (tCons (tCall (sp__law_every K) [] E0 (tCons (tVar 4) (tCons (tVar 5) tNil))) tNil))))) (tOr (tNot (tTru K (tCall spA [] E0 (tCons (tVar 11) (tCons (tVar 8) tNil))))) (tTest (tOp (rNeD K) (tVar 7) (tVar 5))))) (tRet (tC (.bl false))) tNext)
    (tSeq (tFor (iList K (tVar 10)) (gName 12) (tDrop (tBM K "list" rAppend (tVar 12) (tCons (tC (.int 7)) tNil))))
    (tSeq (tDrop (tBM0 K "list" rReverse (tVar 10)))
    (tDrop (tBM K "list" rAppend (tVar 11) (tCons (tC (.int 7)) tNil))))))))
abbrev r2_tail (K : PySem.W.Frag) (spA : Sp) : TS :=
    (tSeq (tIfS (tOr (tNot (tTru K (tCall spA [] E0 (tCons (tVar 10) (tCons (tCall (sp__law_every K) [] E0 (tCons (tVar 4) (tCons (tVar 5) tNil))) tNil))))) (tOr (tNot (tTru K (tCall spA [] E0 (tCons (tVar 11) (tCons (tVar 8) tNil))))) (tTest (tOp (rNeD K) (tVar 7) (tVar 5))))) (tRet (tC (.bl false))) tNext)
    (tSeq (tFor (iList K (tVar 10)) (gName 12) (tDrop (tBM K "list" rAppend (tVar 12) (tCons (tC (.int 7)) tNil))))
    (tSeq (tDrop (tBM0 K "list" rReverse (tVar 10)))
    (tDrop (tBM K "list" rAppend (tVar 11) (tCons (tC (.int 7)) tNil))))))
abbrev r2_lacks (K : PySem.W.Frag) : TE := (tSortedSet K (tLc (iList K (tVar 5)) (gName 13) (tTest (tOp (rEqD K) (tCall (sp__law_having K) [] E0 (tCons (tVar 4) (tCons (tLst (tCons (tVar 13) tNil)) tNil))) (tLst tNil))) (tVar 13) [13]))
abbrev r2_turn (K : PySem.W.Frag) (C : Addr) (T : List Addr) (spA : Sp) : TS :=
    (tSeq (tAsg (tCall (sp__law_pool K) [] E0 (tCons (tVar 1) tNil)) (gName 3))
    (tSeq (tAsg (tCall (sp__law_faces K) [] E0 (tCons (tVar 1) (tCons (tVar 3) (tCons (tC (.int 8)) tNil)))) (gName 4))
    (tSeq (tAsg (tCall (sp__law_signs K) [] E0 (tCons (tVar 1) (tCons (tVar 3) (tCons (tC (.int 40)) tNil)))) (gName 5))
    (tSeq (tAsg (tMake C (sp_init C T) [] E0 (tCons (tCB (rListU K) (tCons (tVar 4) tNil)) tNil)) (gName 6))
    (tSeq (tAsg (tCB (rListU K) (tCons (tVar 5) tNil)) (gName 7))
    (tSeq (tAsg (r2_lacks K) (gName 8))
    (tFor (iRng1 (tCons (tC (.int 2)) tNil)) (gName 9) (r2_again K C T spA))))))))
abbrev r2_law (K : PySem.W.Frag) (C : Addr) (T : List Addr) (spA : Sp) : TS :=
    (tSeq (tAsg (tLst (tCons (tVar 0) (tCons (tC (.int 0)) (tCons (tC (.int 0)) (tCons (tC (.int 0)) tNil))))) (gName 1))
    (tSeq (tFor (iRng1 (tCons (tC (.int 3)) tNil)) (gName 2) (r2_turn K C T spA))
    (tRet (tC (.bl true)))))
def Wl (ar : Addr) (T : List Addr) : Addr → Prop := fun a => a = ar ∨ a ∈ T
section
variable {K : PySem.W.Frag} {C ar as : Addr} {sc : List Int} {T : List Addr} {H : Hp} {D : Ends} {tz : TS}
theorem wl_dom (ok : (Rl K ar as sc T).I H) : ∀ a, Wl ar T a → Dom H a := fun a w => (Nk.dom ok).sub a w
theorem wl_nk (ok : (Rl K ar as sc T).I H) : Nk (Rl K ar as sc T) (Wl ar T) H := ⟨fun a w => w, fun a w => (Nk.dom ok).inn a (wl_dom ok a w)⟩
theorem nats_ints (ns : List Nat) : (ns.map fun n : Nat => PyData.int (n : Int)) = (ns.map fun n : Nat => (n : Int)).map .int := by rw [List.map_map]; rfl
theorem ok_nats {ns : List Nat} (h : ns.length ≤ 40000) (n : Nat) : okD (n + 1) (natsD ns) := ⟨by rw [List.length_map]; exact h, fun x hx => by obtain ⟨z, _, rfl⟩ := List.mem_map.mp hx; exact ok_int _ _⟩
theorem hav_len (fs : List Face) (s : List Int) : (havP fs s).length ≤ fs.length := by
  have := List.length_filter_le (fun k => hasAll (fs.getD k default) s) (List.range fs.length)
  rw [List.length_range] at this
  exact this
theorem every_parts (fs : List Face) (t : List Int) : everyP fs t = (partsI t).map (havP fs) := by
  unfold everyP
  rw [← parts_clus t.length t rfl, List.map_map]
  rfl
/-- the told lists, and what the law reckons -/
theorem again2 {x2 x3 y9 y10 y11 y12 y13 : Option V} {s0 x vf vt vh vl : V} {cx : Addr} {fs : List Face} {t lk : List Int} (hx : x = .ref cx) (ok : (Rl K ar as sc T).I H) (hc : CaseAt (Wl ar T) C H cx fs) (hf : Dt (Wl ar T) H (facesD fs) vf) (ht : Dt (Wl ar T) H (.list (t.map .int)) vt) (hh : Dt (Wl ar T) H (.list (t.map .int)) vh) (hl : Dt (Wl ar T) H (.list (lk.map .int)) vl)
    (fl : fs.length ≤ 8) (tl : t.length ≤ 200) (hb : badAt t = none) (pw : lk.Pairwise (· < ·)) (hm : ∀ z : Int, z ∈ lk ↔ z ∈ t ∧ havP fs [z] = []) (ll : lk.length ≤ 200)
    (q : ∀ a9 a10 a11 a12 H2, Le (Rl K ar as sc T) H H2 → tz D [some s0, some (.ref ar), x2, x3, some vf, some vt, some x, some vh, some vl, a9, a10, a11, a12, y13] H2) :
    tSeq (tFor (iRng1 (tCons (tC (.int 2)) tNil)) (gName 9) (r2_again K C T (spA 2 K))) tz D [some s0, some (.ref ar), x2, x3, some vf, some vt, some x, some vh, some vl, y9, y10, y11, y12, y13] H := by
  subst hx
  have nW : ∀ a, (Rl K ar as sc T).W a → Wl ar T a := fun a w => w
  refine q_forZ (R := Rl K ar as sc T) (φ := fun n => n = 2) (fun i σ' H' => (∃ a9 a10 a11 a12, σ' = [some s0, some (.ref ar), x2, x3, some vf, some vt, some (.ref cx), some vh, some vl, a9, a10, a11, a12, y13]) ∧ Le (Rl K ar as sc T) H H') (fun H1 e Q q => q 2 H1 (Le.refl e.ok) rfl) ok (fun n q => by rw [q]; decide) (fun n H1 e1 _ => ⟨⟨_, _, _, _, rfl⟩, e1⟩) (fun n i σ' H' hn hi p => ?_) (fun n σ' H' hn p => ?_)
  · obtain ⟨⟨a9, a10, a11, a12, rfl⟩, l0⟩ := p
    have h7 : Dt (Wl ar T) H' (.list (t.map .int)) vh := hh.le l0 nW
    have c0 := hc.le l0 nW
    refine ⟨_, rfl, _, rfl, cx, vh, fs, t, rfl, c0.weak fun a z => z.elim, h7.no, by omega, by omega, hb, l0.ok.2, fun u H1 e1 ru => ?_⟩
    have e1' : Le (Rl K ar as sc T) H' H1 := e1.rt l0.ok.1
    have l1 := l0.trans e1'
    refine ⟨_, rfl, _, rfl, cx, vh, fs, t, rfl, (c0.le e1' nW).weak fun a z => z.elim, (h7.le e1' nW).no, by omega, by omega, hb, l1.ok.2, fun uf H2 ns e2 pw2 hm2 rf => ?_⟩
    have e2' : Le (Rl K ar as sc T) H1 H2 := e2.rt l1.ok.1
    have l2 := l1.trans e2'
    obtain rfl : ns = lk := rise_eq pw2 pw fun z => (hm2 z).trans (hm z).symm
    have ru2 : Dt (Wl ar T) H2 (chosenD ((partsI t).map (havP fs))) u := (ru.weak (wl_dom l0.ok)).le e2' nW
    have rf2 : Dt (Wl ar T) H2 (.list (ns.map .int)) uf := rf.weak (wl_dom l1.ok)
    have pl := parts_len t
    have ok1 : okD 2 (chosenD ((partsI t).map (havP fs))) := ⟨by rw [List.length_map, List.length_map]; omega, fun x hx => by
      obtain ⟨c, hc, rfl⟩ := List.mem_map.mp hx
      obtain ⟨p, hp, rfl⟩ := List.mem_map.mp hc
      have := hav_len fs p
      exact ok_nats (by omega) 0⟩
    have ok2 : okD 2 (.list (ns.map PyData.int)) := ⟨by rw [List.length_map]; omega, fun x hx => by obtain ⟨z, _, rfl⟩ := List.mem_map.mp hx; exact ok_int _ _⟩
    have okT : okD 2 (.list (t.map PyData.int)) := ⟨by rw [List.length_map]; omega, fun x hx => by obtain ⟨z, _, rfl⟩ := List.mem_map.mp hx; exact ok_int _ _⟩
    show r2_tail K (spA 2 K) _ [some s0, some (.ref ar), x2, x3, some vf, some vt, some (.ref cx), some vh, some vl, some (.int (i : Int)), some u, some uf, a12, y13] H2
    refine q_no (R := Rl K ar as sc T) (EvT.is (a := (!true || (!true || !true))) (t_or (t_not (t_trub (N := No) (e_call (a_cons (N := Wl ar T) (e_var rfl ru2 nW) (a_one (e_call (z := chosenD ((partsI t).map (havP fs))) (a_cons (N := Wl ar T) (e_var rfl (hf.le l2 nW) nW) (a_one (e_var rfl (ht.le l2 nW) nW)) nW) fun H3 vs e r Q q => ?_)) nW) fun H3 vs e r Q q => ?_))) fun _ => t_or (t_not (t_trub (N := No) (e_call (a_cons (N := Wl ar T) (e_var rfl rf2 nW) (a_one (e_var rfl (hl.le l2 nW) nW)) nW) fun H3 vs e r Q q => ?_))) fun _ => t_cmp (N := Wl ar T) ((e_ne (e_var rfl (hh.le l2 nW) nW) (e_var rfl (ht.le l2 nW) nW) nW (ok_shaped okT (by decide)) (ok_shaped okT (by decide))).is (by rw [ok_eqv okT]))) rfl) l2.ok fun H3 e3 => ?_
    · cases r with
      | cons r1 r2 => cases r2 with
        | cons r2 r3 =>
          cases r3
          exact ⟨_, _, fs, t, rfl, r1.no, r2.no, by omega, by omega, fun v' H4 e4 r4 => q v' H4 (Le.of_ex e4 e.ok) (by rw [every_parts] at r4; exact r4.weak fun a w => (wl_dom e.ok a w))⟩
    · cases r with
      | cons r1 r2 => cases r2 with
        | cons r2 r3 =>
          cases r3
          exact ⟨_, _, _, rfl, r1.no, r2.no, ok1, fun H4 e4 => q _ H4 (Le.of_ex e4 e.ok) (.bl _)⟩
    · cases r with
      | cons r1 r2 => cases r2 with
        | cons r2 r3 =>
          cases r3
          exact ⟨_, _, _, rfl, r1.no, r2.no, ok2, fun H4 e4 => q _ H4 (Le.of_ex e4 e.ok) (.bl _)⟩
    · have subD : ∀ a, (Rl K ar as sc T).W a → Dom H' a := (Nk.dom l0.ok).sub
      have noneOf : ∀ {G : Hp} {a : Addr}, ¬ Dom G a → G a = none := fun {G a} n => by
        cases z : G a with
        | none => rfl
        | some o => exact absurd ⟨o, z⟩ n
      obtain ⟨e, xs, rfl, ne, he1, rx1⟩ := ru.listy
      obtain ⟨g, zs, rfl, ng, hg2, rz⟩ := rf.listy
      have rz' := rz.ints
      have eH' := noneOf ne
      have gH1 := noneOf ng
      have eW : ¬ (Rl K ar as sc T).W e := notW_of l0.ok eH'
      have gW : ¬ (Rl K ar as sc T).W g := notW_of l1.ok gH1
      have eg : e ≠ g := fun z => by rw [z, gH1] at he1; cases he1
      have e13 := e2'.trans e3
      refine q_spoil (R := Rl K ar as sc T) (H0 := H) (i := 10) (j := 12) (e := e) (xs := xs) (fun a => a = g) rfl (e13.ext e _ eW he1) (l0.back e eH') (l2.trans e3) (fun a ha => by rw [ha]; exact gW) (fun v hv => ?_) (by rw [rx1.length, List.length_map, List.length_map]; omega) (by show 12 < 14; decide) fun z H4 l4 he4 hg4 => ?_
      · obtain ⟨k, hk, ek⟩ := List.getElem_of_mem hv
        obtain ⟨d, hd, rd⟩ := rx1.getV (List.getElem?_eq_getElem hk)
        rw [ek] at rd
        rw [List.getElem?_map] at hd
        cases hq : ((partsI t).map (havP fs))[k]? with
        | none => rw [hq] at hd; cases hd
        | some hs =>
          rw [hq] at hd
          obtain rfl : natsD hs = d := Option.some.inj hd
          unfold natsD at rd
          rw [nats_ints] at rd
          obtain ⟨a, ys, rfl, na, ha1, ra⟩ := rd.listy
          have ry := ra.ints
          have aH' := noneOf na
          have aW : ¬ (Rl K ar as sc T).W a := notW_of l0.ok aH'
          refine ⟨a, ys, rfl, e13.ext a _ aW ha1, ?_, l0.back a aH', fun z => ?_, fun z => ?_⟩
          · rw [ry, List.length_map, List.length_map]
            obtain ⟨c, hc, rfl⟩ := List.mem_map.1 (List.mem_of_getElem? hq)
            have := hav_len fs c
            omega
          · rw [z, he1] at ha1
            cases ha1
            rw [ry] at hv
            obtain ⟨w, _, e⟩ := List.mem_map.1 hv
            cases e
          · rw [z, gH1] at ha1
            cases ha1
      · have hg3 : H3 g = some (.lst zs) := e3.ext g _ gW hg2
        have hg5 := hg4 g _ rfl hg3
        have l5 : Le (Rl K ar as sc T) H (upd H4 e (.lst xs.reverse)) := l4.put (l0.back e eH') he4
        refine ⟨_, rfl, .inl ⟨rfl, xs, SqL.of he4⟩, e, xs, rfl, rfl, he4, ?_⟩
        have hg6 : upd H4 e (.lst xs.reverse) g = some (.lst zs) := by rw [upd_ne eg.symm]; exact hg5
        refine s_appZ (R := Rl K ar as sc T) (φ := fun n => n = 7) (p := g) (xs := zs) rfl hg6 gW (z_of (N := No) e_int rfl) l5.ok (by rw [rz', List.length_map]; omega) fun n H7 e7 hn => ?_
        exact ⟨⟨_, _, _, _, rfl⟩, (l5.trans e7).put (l1.back g gH1) (e7.ext g _ gW hg6)⟩
  · obtain ⟨⟨a9, a10, a11, a12, rfl⟩, l0⟩ := p
    exact q _ _ _ _ _ l0
theorem again2F {x2 x3 y9 y10 y11 y12 y13 : Option V} {s0 x vf vt vh vl : V} {cx : Addr} {fs : List Face} {t lk : List Int} (hx : x = .ref cx) (ok : (Rl K ar as sc T).I H) (hc : CaseAt (Wl ar T) C H cx fs) (hf : Dt (Wl ar T) H (facesD fs) vf) (ht : Dt (Wl ar T) H (.list (t.map .int)) vt) (hh : Dt (Wl ar T) H (.list (t.map .int)) vh) (hl : Dt (Wl ar T) H (.list (lk.map .int)) vl)
    (fl : fs.length ≤ 8) (tl : t.length ≤ 200) (hb : badAt t = none) (pw : lk.Pairwise (· < ·)) (hm : ∀ z : Int, z ∈ lk ↔ z ∈ t ∧ havP fs [z] = []) (ll : lk.length ≤ 200)
    (q : ∀ a9 a10 a11 a12 H2, Le (Rl K ar as sc T) H H2 → D.nx [some s0, some (.ref ar), x2, x3, some vf, some vt, some x, some vh, some vl, a9, a10, a11, a12, y13] H2) :
    tFor (iRng1 (tCons (tC (.int 2)) tNil)) (gName 9) (r2_again K C T (spA 2 K)) D [some s0, some (.ref ar), x2, x3, some vf, some vt, some x, some vh, some vl, y9, y10, y11, y12, y13] H :=
  again2 (tz := tNext) (D := D) hx ok hc hf ht hh hl fl tl hb pw hm ll q
def sp2_law (K : PySem.W.Frag) (T : List Addr) : Sp := fun vs H Q _ => ∃ (as : Addr) (sc : List Int), vs = [.ref as] ∧ ((∃ o, H as = some (.frz o (.lst (sc.map V.int)))) ∨ SqL K (fun _ => none) as (sc.map V.int)) ∧ (∀ a ∈ T, TabG H a) ∧ ∀ H', Q (.bl true) H'
theorem rd2_law (vs : List V) (H : Hp) (Q : VK) (E : XK) (h : sp2_law K T vs H Q E) : r2_law K C T (spA 2 K) { nx := fun _ H' => Q .non H', rt := Q } (start ["_law_script", "_law_row", "_law_turn", "_law_pool_here", "_law_faces_here", "_law_text", "_law_case", "_law_handed", "_law_lacks", "_law_again", "_law_every_here", "_law_found", "_law_some", "_law_sign"] vs) H := by
  obtain ⟨as, sc, rfl, hsc, tb, k⟩ := h
  refine ⟨_, rfl, by rw [sizeLine_eq]; simp, fun ar har => ?_⟩
  have ok1 : (Rl K ar as sc T).I (upd H ar (.lst [.ref as, .int 0, .int 0, .int 0])) := ⟨⟨⟨0, 0, 0, Int.le_refl _, upd_same⟩, hsc.imp (fun ⟨o, q⟩ => ⟨o, by rw [upd_ne (fun e => by rw [e, har] at q; cases q)]; exact q⟩) id⟩, rt_upd tb (rt_not tb har)⟩
  have nW : ∀ a, (Rl K ar as sc T).W a → Wl ar T a := fun a w => w
  show tSeq (tFor (iRng1 (tCons (tC (.int 3)) tNil)) (gName 2) (r2_turn K C T (spA 2 K))) (tRet (tC (.bl true))) { nx := fun _ H' => Q .non H', rt := Q } [some (.ref as), some (.ref ar), none, none, none, none, none, none, none, none, none, none, none, none] _
  refine q_forZ (R := Rl K ar as sc T) (φ := fun n => n = 3) (fun i σ' H' => (∃ y2 y3 y4 y5 y6 y7 y8 y9 ya yb yc yd, σ' = [some (.ref as), some (.ref ar), y2, y3, y4, y5, y6, y7, y8, y9, ya, yb, yc, yd]) ∧ (Rl K ar as sc T).I H') (fun H1 e Q q => q 3 H1 (Le.refl e.ok) rfl) ok1 (fun n q => by rw [q]; decide) (fun n H1 e1 _ => ⟨⟨_, _, _, _, _, _, _, _, _, _, _, _, rfl⟩, e1.ok⟩) (fun n i σ' H' hn hi p => ?_) (fun n σ' H' hn p => ?_)
  · obtain ⟨⟨y2, y3, y4, y5, y6, y7, y8, y9, ya, yb, yc, yd, rfl⟩, ok⟩ := p
    have domar : ∀ {H4 : Hp}, (Rl K ar as sc T).I H4 → ∀ a, a = ar → Dom H4 a := fun o a ha => wl_dom o a (.inl ha)
    refine ⟨_, rfl, ar, as, sc, rfl, ok.1, fun ls ms vp H2 pok e2 r2 => ?_⟩
    have e2' : Le (Rl K ar as sc T) H' H2 := e2.rr ok.2
    have rp2 : Dt (fun a => a = ar) H2 (poolD ls ms) vp := r2.weak (domar ok)
    refine ⟨_, rfl, _, rfl, ar, as, sc, vp, ls, ms, 8, rfl, e2'.ok.1, pok, rp2, by decide, by decide, fun fs vf H3 fok e3 r3 => ?_⟩
    have e3' : Le (Rl K ar as sc T) H2 H3 := e3.rr e2'.ok.2
    refine ⟨_, rfl, _, rfl, ar, as, sc, vp, ls, ms, 40, rfl, e3'.ok.1, pok, rp2.le e3 fun a w => w, by decide, by decide, fun t vt H4 tok e4 r4 => ?_⟩
    have e4' : Le (Rl K ar as sc T) H3 H4 := e4.rr e3'.ok.2
    have rf4 : Dt (Wl ar T) H4 (facesD fs) vf := (r3.weak (wl_dom e2'.ok)).le e4' nW
    have rt4 : Dt (Wl ar T) H4 (.list (t.map .int)) vt := r4.weak (wl_dom e3'.ok)
    refine q_case (i := 4) (j := 6) rfl rf4.no fok e4'.ok.2 fun cx H5 e5 c5 => ?_
    have e5' : Le (Rl K ar as sc T) H4 H5 := e5.rt e4'.ok.1
    have hc5 : CaseAt (Wl ar T) C H5 cx fs := c5.weak (wl_dom e4'.ok)
    have tl := tok.2
    have fl := fok.ln
    refine q_asg (R := Rl K ar as sc T) (N := Wl ar T) (d := .list (t.map .int)) (e_list (e_var rfl (rt4.le e5' nW) nW) (wl_nk e5'.ok)) e5'.ok fun vh H6 e6 rh => ?_
    have e46 := e5'.trans e6
    refine q_asgP (R := Rl K ar as sc T) (N := Wl ar T) (φp := fun d => ∃ lk : List Int, d = .list (lk.map .int) ∧ lk.Pairwise (· < ·) ∧ ∀ z : Int, z ∈ lk ↔ z ∈ t ∧ havP fs [z] = []) ?_ e6.ok fun d vl H7 e7 hd rl => ?_
    · refine (p_sset (ns := t.filter fun z => (havP fs [z]).isEmpty) (p_keep (N0 := Wl ar T) (fun z => (havP fs [z]).isEmpty) (e_var rfl (rt4.le e46 nW) nW) nW (by omega) (wl_nk e6.ok) (fun _ => rfl) (fun z D H8 hD e8 nk hz => ?_) fun z => rfl) ?_ (wl_nk e6.ok)).imp fun d hd => ?_
      · have nW2 : ∀ a, (Rl K ar as sc T).W a → (a = D ∨ Wl ar T a) := fun a w => .inr w
        have lt := (List.length_filter_le (fun k => hasAll (fs.getD k default) [z]) (List.range fs.length))
        refine (t_cmp (N := fun a => a = D ∨ Wl ar T a) (e_eq (d := natsD (havP fs [z])) (e := .list []) (e_call (a_cons (N := fun a => a = D ∨ Wl ar T a) (e_var rfl (((rf4.le e46 nW).more hD).le e8 nW2) nW2) (a_one (e_lst (ds := [.int z]) (a_one (e_vi rfl)) nk (by show 1 ≤ 100000; decide))) nW2) fun H9 vs e r Q q => ?_) (e_lst a_nil nk (by decide)) nW2 (ok_shaped (ok_nats (by have := hav_len fs [z]; omega) 0) (by decide)) shaped_nil)).is ?_
        · cases r with
          | cons r1 r2 => cases r2 with
            | cons r2 r3 =>
              cases r3
              exact ⟨_, _, fs, [z], rfl, r1.no, r2.no, by omega, by show 1 ≤ 1000; decide, fun v' H9 e9 r9 => q v' H9 (Le.of_ex e9 e.ok) (r9.weak (nk.le e).domle)⟩
        · unfold natsD
          rw [nats_ints, eqv_empty, List.isEmpty_map]
      · have := List.length_filter_le (fun z => (havP fs [z]).isEmpty) t
        omega
      · obtain ⟨lk, rfl, pw, hm⟩ := hd
        refine ⟨lk, rfl, pw, fun z => (hm z).trans ?_⟩
        rw [List.mem_filter, List.isEmpty_iff]
    · obtain ⟨lk, rfl, pw, hm⟩ := hd
      have e47 := e46.trans e7
      have e67 := e6.trans e7
      have ll : lk.length ≤ 200 := by
        have nd : lk.Nodup := pw.imp fun {a b} q => by omega
        have := erase_len lk t nd fun z hz => ((hm z).1 hz).1
        omega
      exact again2F (C := C) (T := T) (t := t) (fs := fs) (lk := lk) rfl e7.ok (hc5.le e67 nW) (rf4.le e47 nW) (rt4.le e47 nW) (rh.le e7 nW) rl fl tl (sign_none tok.1) pw hm ll fun b9 b10 b11 b12 H9 e9 => (⟨⟨_, _, _, _, _, _, _, _, _, _, _, _, rfl⟩, e9.ok⟩ : _ ∧ _)
  · exact k H'
end
end FF
set_option Elab.async false
set_option linter.all false
set_option maxRecDepth 100000
set_option maxHeartbeats 4000000
/-! k06: the law's torn and due -/
namespace FF
open PySem PySem.Spec PyProof.Rows L2
open GxR (TabB TabG Tabbed)
section
variable {R : Rg} {K : PySem.W.Frag} {σ : L2.St} {H : Hp} {N N' : Addr → Prop} {D : Ends} {ta tb tc te : TE}
theorem e_max {ns : List Int} {M : Int} (h : Ev R te σ H N (.list (ns.map .int))) (hM : M ∈ ns) (hb : ∀ y ∈ ns, y ≤ M) : Ev R (tCB (rMax K) (tCons te tNil)) σ H N' (.int M) := fun H1 e Q q => h H1 e _ fun v H2 e2 r => by
  obtain ⟨a, xs, rfl, na, hl, ra⟩ := r.listy
  rw [ra.ints] at hl
  refine ⟨a, ns, rfl, SqL.of hl, List.length_pos_of_mem hM, fun m hm hy => ?_⟩
  have h1 := hb m hm
  have h2 := hy M hM
  obtain rfl : m = M := by omega
  exact q _ H2 e2 (.int _)
theorem ex_max : ∀ {ns : List Int}, ns ≠ [] → ∃ M ∈ ns, ∀ y ∈ ns, y ≤ M
  | [], h => absurd rfl h
  | [a], _ => ⟨a, List.mem_singleton.2 rfl, fun y hy => by rw [List.mem_singleton.1 hy]; exact Int.le_refl _⟩
  | a :: b :: l, _ => by
    obtain ⟨M, hM, hb⟩ := ex_max (ns := b :: l) (List.cons_ne_nil _ _)
    by_cases c : a ≤ M
    · exact ⟨M, List.mem_cons_of_mem _ hM, fun y hy => (List.mem_cons.1 hy).elim (fun e => by rw [e]; exact c) (hb y)⟩
    · exact ⟨a, List.mem_cons_self .., fun y hy => (List.mem_cons.1 hy).elim (fun e => by rw [e]; exact Int.le_refl _) fun h => by have := hb y h; omega⟩
theorem e_inL {z : Int} {ns : List Int} (ha : Ev R ta σ H N (.int z)) (hb : Ev R tb σ H N (.list (ns.map .int))) : Ev R (tOp (rInU K false) ta tb) σ H N (.bool (decide (z ∈ ns))) := fun H1 e Q q =>
  ha H1 e _ fun u H2 e2 ru => hb H2 (e.trans e2) _ fun v H3 e3 rv => by
    cases ru
    obtain ⟨p, xs, rfl, na, hp, ra⟩ := rv.listy
    have ex := ra.ints
    subst ex
    refine .inl ⟨p, _, rfl, .inl (SqL.of hp), rfl, flat_ints ns, ?_⟩
    show Q (.bl (inV (.int z) (ns.map V.int))) H3
    rw [inV_ints]
    exact q _ H3 (e2.trans e3) (.bl _)
end
theorem eqvAll_len : ∀ {xs ys : List PyData}, PyData.eqvAll xs ys = true → xs.length = ys.length
  | [], [], _ => rfl
  | [], _ :: _, h => by unfold PyData.eqvAll at h; cases h
  | _ :: _, [], h => by unfold PyData.eqvAll at h; cases h
  | _ :: xs, _ :: ys, h => by
    rw [PyData.eqvAll, Bool.and_eq_true] at h
    rw [List.length_cons, List.length_cons, eqvAll_len h.2]
theorem ok_chosen {cs : List (List Nat)} (h : cs.length ≤ 1000) (hf : ∀ c ∈ cs, c.length ≤ 1000) : okD 2 (chosenD cs) := ⟨by rw [List.length_map]; omega, fun x hx => by
  obtain ⟨c, hc, rfl⟩ := List.mem_map.mp hx
  exact ok_nats (by have := hf c hc; omega) 0⟩
theorem eqv_filter {cs : List (List Nat)} (p : List Nat → Bool) (h : cs.length ≤ 1000) (hf : ∀ c ∈ cs, c.length ≤ 1000) : PyData.eqv (chosenD (cs.filter p)) (chosenD cs) = cs.all p := by
  by_cases c : cs.all p = true
  · rw [List.filter_eq_self.2 (List.all_eq_true.1 c), c]
    exact ok_eqv (ok_chosen h hf)
  · rw [Bool.eq_false_iff.2 c]
    refine Bool.eq_false_iff.2 fun e => c ?_
    unfold chosenD at e
    rw [PyData.eqv] at e
    have := eqvAll_len e
    rw [List.length_map, List.length_map] at this
    exact List.all_eq_true.2 (List.length_filter_eq_length_iff.1 this)
theorem torn_eq {cs : List (List Nat)} (hne : cs ≠ []) (h8 : ∀ c ∈ cs, ∀ f ∈ c, f < 8) : tornP cs = (!(cs.all fun c => c.isEmpty) && ((List.range 8).filter (inAll cs)).isEmpty) := by
  unfold tornP
  have e1 : (cs.any fun fs => !fs.isEmpty) = !(cs.all fun c => c.isEmpty) := by
    rw [List.any_eq_not_all_not]
    simp
  rw [e1]
  congr 1
  obtain ⟨hd, tl, rfl⟩ : ∃ hd tl, cs = hd :: tl := by
    cases cs with
    | nil => exact absurd rfl hne
    | cons a l => exact ⟨a, l, rfl⟩
  rw [Bool.eq_iff_iff, List.isEmpty_iff, List.isEmpty_iff, List.filter_eq_nil_iff, List.filter_eq_nil_iff]
  have hin : ∀ f, inAll (hd :: tl) f = true → f ∈ hd := fun f hf => by
    unfold inAll at hf
    rw [List.all_cons, Bool.and_eq_true, decide_eq_true_iff] at hf
    exact hf.1
  exact ⟨fun h f _ hf => h f (hin f hf) hf, fun h f hm hf => h f (List.mem_range.2 (h8 hd (List.mem_cons_self ..) f hm)) hf⟩
def sp__law_torn (K : PySem.W.Frag) : Sp := fun vs H Q _ => ∃ (v : V) (cs : List (List Nat)) (f l : Nat), vs = [v, .int f, .int l] ∧ Dt No H (chosenD cs) v ∧ f ≤ l ∧ l < cs.length ∧ cs.length ≤ 1000 ∧ (∀ c ∈ cs, c.length ≤ 1000 ∧ ∀ x ∈ c, x < 8) ∧ ∀ H', Evl.Ex H H' → Q (.bl (tornP (cutC cs f l))) H'
abbrev r__law_torn (K : PySem.W.Frag) : TS :=
    (tSeq (tAsg (tSl (rSlU K) (tVar 0) (tPart (tVar 1)) (tPart (tOp (rAddU K) (tVar 2) (tC (.int 1))))) (gName 3))
    (tSeq (tIfS (tTest (tOp (rEqD K) (tCB (rMax K) (tCons (tLc (iList K (tVar 3)) (gName 5) tYes (tCB (rLenU K) (tCons (tVar 5) tNil)) [5]) tNil)) (tC (.int 0)))) (tRet (tC (.bl false))) tNext)
    (tRet (tOp (rEqD K) (tLc (iRng1 (tCons (tC (.int 8)) tNil)) (gName 4) (tTest (tOp (rEqD K) (tLc (iList K (tVar 3)) (gName 5) (tTest (tOp (rInU K false) (tVar 4) (tVar 5))) (tVar 5) [5]) (tVar 3))) (tVar 4) [4]) (tLst tNil)))))
theorem chosen_at {cs : List (List Nat)} {i : Nat} {x : PyData} (h : (cs.map natsD)[i]? = some x) : ∃ c, cs[i]? = some c ∧ x = natsD c := by
  rw [List.getElem?_map] at h
  cases e : cs[i]? with
  | none => rw [e] at h; cases h
  | some c => rw [e] at h; exact ⟨c, rfl, (Option.some.inj h).symm⟩
theorem rd__law_torn {K : PySem.W.Frag} (vs : List V) (H : Hp) (Q : VK) (E : XK) (h : sp__law_torn K vs H Q E) : r__law_torn K { nx := fun _ H' => Q .non H', rt := Q } (start ["_law_every_here", "_law_first", "_law_last", "_law_some", "_law_face", "_law_one"] vs) H := by
  obtain ⟨v, cs, f, l, rfl, hv, hfl, hl, hcs, hok, k⟩ := h
  have nW : ∀ (N : Addr → Prop) (a : Addr), R0.W a → N a := fun _ _ z => z.elim
  have lcs : (cs.map natsD).length = cs.length := List.length_map ..
  obtain ⟨ne, sl, sub⟩ := cutC_ok hfl hl
  have sok : ∀ c ∈ cutC cs f l, c.length ≤ 1000 := fun c hc => (hok c (sub c hc)).1
  have s8 : ∀ c ∈ cutC cs f l, ∀ x ∈ c, x < 8 := fun c hc => (hok c (sub c hc)).2
  have te := torn_eq ne s8
  generalize hS : cutC cs f l = S at ne sl sub sok s8 te k
  have lS : (S.map natsD).length = S.length := List.length_map ..
  have cut : Ev R0 (tSl (rSlU K) (tVar 0) (tPart (tVar 1)) (tPart (tOp (rAddU K) (tVar 2) (tC (.int 1))))) [some v, some (.int f), some (.int l), none, none, none] H No (chosenD S) := (e_sll (ds := cs.map natsD) (e_var rfl hv (nW _)) (o_some (i := ((f : Nat) : Int)) (e_vi rfl)) (o_some (i := ((l + 1 : Nat) : Int)) ((e_add (e_vi rfl) e_int).is rfl)) nk0).is (by rw [cutD_mid _ _ _ (by omega) (by rw [lcs]; omega), ← hS]; unfold chosenD cutC; rw [Int.toNat_natCast, Int.toNat_natCast, List.map_take, List.map_drop])
  refine q_asg (R := R0) (N := No) cut trivial fun s H1 e1 rs => ?_
  have ev3 : ∀ {σ : L2.St} {H2 : Hp}, σ[3]? = some (some s) → Le R0 H1 H2 → Ev R0 (tVar 3) σ H2 No (chosenD S) := fun hσ e => e_var hσ (rs.le e (nW _)) (nW _)
  have lens : Ev R0 (tLc (iList K (tVar 3)) (gName 5) tYes (tCB (rLenU K) (tCons (tVar 5) tNil)) [5]) [some v, some (.int f), some (.int l), some s, none, none] H1 No (.list ((S.map fun c => ((c.length : Nat) : Int)).map .int)) := by
    refine EvP.ev ((p_lcL (N0 := No) (ds := S.map natsD) (fun i o => o = some (.int ((S.getD i []).length : Nat))) (ev3 rfl (Le.refl trivial)) (nW _) (by rw [lS]; omega) nk0 (fun _ => rfl) fun i x w D H2 hD e2 nk2 hi r => ?_).imp fun d o => ?_)
    · obtain ⟨c, hc, rfl⟩ := chosen_at hi
      have gd : S.getD i [] = c := by rw [List.getD_eq_getElem?_getD, hc]; rfl
      rw [gd]
      have lc : (c.map fun n : Nat => PyData.int (n : Int)).length = c.length := List.length_map ..
      exact f_some ((e_lenl (N := No) (e_var rfl r.no (nW _))).is (by rw [lc]))
    · have q := out_det (f := fun _ => true) (g := fun i => PyData.int ((S.getD i []).length : Nat)) (by simpa using o)
      rw [q, List.filter_eq_self.2 (fun _ _ => rfl), List.map_map]
      exact congrArg PyData.list (map_range (l := S) (f := PyData.int ∘ fun c => ((c.length : Nat) : Int)) fun i c hc => by rw [List.getD_eq_getElem?_getD, hc]; rfl)
  obtain ⟨M, hM, hMb⟩ := ex_max (ns := S.map fun c => ((c.length : Nat) : Int)) (fun e => ne (List.map_eq_nil_iff.1 e))
  have zero : decide (M = 0) = S.all fun c => c.isEmpty := by
    rw [Bool.eq_iff_iff, decide_eq_true_iff, List.all_eq_true]
    constructor
    · intro h c hc
      have := hMb _ (List.mem_map.2 ⟨c, hc, rfl⟩)
      rw [List.isEmpty_iff, ← List.length_eq_zero_iff]
      omega
    · intro h
      obtain ⟨c, hc, e⟩ := List.mem_map.1 hM
      have := List.isEmpty_iff.1 (h c hc)
      rw [← e, this]
      rfl
  have t1 : EvT R0 (tTest (tOp (rEqD K) (tCB (rMax K) (tCons (tLc (iList K (tVar 3)) (gName 5) tYes (tCB (rLenU K) (tCons (tVar 5) tNil)) [5]) tNil)) (tC (.int 0)))) [some v, some (.int f), some (.int l), some s, none, none] H1 (S.all fun c => c.isEmpty) := t_cmp (N := No) ((e_eq (d := .int M) (e := .int 0) (e_max lens hM hMb) e_int (nW _) (shaped_int _) (shaped_int _)).is (by rw [eqv_int, zero]))
  refine q_if (R := R0) t1 trivial (fun c H2 e2 => ?_) (fun c H2 e2 => ?_)
  · rw [te, c] at k
    exact k H2 (e1.trans e2).ex
  · rw [te, c] at k
    have e12 := e1.trans e2
    have outer : Ev R0 (tLc (iRng1 (tCons (tC (.int 8)) tNil)) (gName 4) (tTest (tOp (rEqD K) (tLc (iList K (tVar 3)) (gName 5) (tTest (tOp (rInU K false) (tVar 4) (tVar 5))) (tVar 5) [5]) (tVar 3))) (tVar 4) [4]) [some v, some (.int f), some (.int l), some s, none, none] H2 No (.list ((((List.range 8).filter (inAll S)).map fun n : Nat => (n : Int)).map .int)) := by
      refine EvP.ev ((p_lcR (n := 8) (fun i o => o = if inAll S i = true then some (.int (i : Nat)) else none) (fun H3 e Q q => q H3 (Le.refl trivial)) (by decide) nk0 (fun _ => rfl) fun i D H3 hD e3 nk3 hi => ?_).imp fun d o => ?_)
      · have r3 := ev3 (σ := [some v, some (.int f), some (.int l), some s, some (.int (i : Nat)), none]) rfl (e2.trans e3)
        have inner : Ev R0 (tLc (iList K (tVar 3)) (gName 5) (tTest (tOp (rInU K false) (tVar 4) (tVar 5))) (tVar 5) [5]) [some v, some (.int f), some (.int l), some s, some (.int (i : Nat)), none] H3 No (chosenD (S.filter fun c => decide (i ∈ c))) := by
          refine EvP.ev ((p_lcL (N0 := No) (ds := S.map natsD) (fun j o => o = if decide (i ∈ S.getD j []) = true then some (natsD (S.getD j [])) else none) r3 (nW _) (by rw [lS]; omega) nk0 (fun _ => rfl) fun j x w D H4 hD e4 nk4 hj r => ?_).imp fun d o => ?_)
          · obtain ⟨c, hc, rfl⟩ := chosen_at hj
            have gd : S.getD j [] = c := by rw [List.getD_eq_getElem?_getD, hc]; rfl
            rw [gd]
            have ci : natsD c = .list ((c.map fun n : Nat => (n : Int)).map .int) := by unfold natsD; rw [List.map_map]; rfl
            have mi : decide ((i : Int) ∈ c.map fun n : Nat => (n : Int)) = decide (i ∈ c) := decide_eq_decide.2 ⟨fun h => by obtain ⟨g, hg, e⟩ := List.mem_map.1 h; rw [← Int.ofNat.inj e]; exact hg, fun h => List.mem_map.2 ⟨i, h, rfl⟩⟩
            refine f_det (t_cmp (N := No) ((e_inL (z := (i : Nat)) (ns := c.map fun n : Nat => (n : Int)) (e_vi rfl) (e_var rfl (by rw [← ci]; exact r.no) (nW _))).is (by rw [mi]))) fun _ => e_var rfl (r.weak fun a h => h.imp id fun z => z) (nW _)
          · have q := out_det (f := fun j => decide (i ∈ S.getD j [])) (g := fun j => natsD (S.getD j [])) o
            rw [q, lS]
            unfold chosenD
            refine congrArg PyData.list ?_
            have e := PySem.W.getD_map [] S
            conv => rhs; rw [← e]
            rw [List.filter_map, List.map_map]
            rfl
        refine f_det (t_cmp (N := No) ((e_eq inner r3 (nW _) (ok_shaped (ok_chosen (by have := List.length_filter_le (fun c => decide (i ∈ c)) S; omega) fun c hc => sok c (List.mem_filter.1 hc).1) (by decide)) (ok_shaped (ok_chosen (by omega) sok) (by decide))).is ?_)) fun _ => e_vi rfl
        rw [eqv_filter _ (by omega) sok]
        rfl
      · have q := out_det (f := inAll S) (g := fun i => PyData.int (i : Nat)) o
        rw [q, List.map_map]
        rfl
    refine s_ret (R := R0) (N := No) (d := .bool (((List.range 8).filter (inAll S)).isEmpty)) ((e_eq (N := No) outer (e_lst (ds := []) a_nil nk0 (by decide)) (nW _) (ok_shaped (n := 1) ⟨by rw [List.length_map, List.length_map]; have := List.length_filter_le (inAll S) (List.range 8); rw [List.length_range] at this; omega, fun x hx => by obtain ⟨z, _, rfl⟩ := List.mem_map.mp hx; exact ok_int _ _⟩ (by decide)) shaped_nil).is (by rw [eqv_empty, List.isEmpty_map])) trivial fun w H3 e3 rw_ => by cases rw_; exact k H3 (e12.trans e3).ex
end FF
set_option Elab.async false
set_option linter.all false
set_option maxRecDepth 100000
set_option maxHeartbeats 4000000
/-! k06: the law's due and stretches -/
namespace FF
open PySem PySem.Spec PyProof.Rows L2
open GxR (TabB TabG Tabbed)
def Ok8 (cs : List (List Nat)) : Prop := cs.length ≤ 1000 ∧ ∀ c ∈ cs, c.length ≤ 1000 ∧ ∀ x ∈ c, x < 8
def sp__law_due (K : PySem.W.Frag) : Sp := fun vs H Q _ => ∃ (v w : V) (cs : List (List Nat)) (sts : List (Int × Int)), vs = [v, w] ∧ Dt No H (chosenD cs) v ∧ Dt No H (.list (sts.map sD)) w ∧ Ok8 cs ∧ sts.length ≤ 1000 ∧ ∀ H', Evl.Ex H H' → Q (.bl (holdsP cs 0 sts)) H'
abbrev r__law_due (K : PySem.W.Frag) : TS :=
    (tSeq (tAsg (tC (.int 0)) (gName 2))
    (tSeq (tFor (iList K (tVar 1)) (gTup K 2 (gCons (gName 3) (gCons (gName 4) gNil))) (tSeq (tIfS (tOr (tNot (tTest (tChain3 rLe3 rLe3 rLt3 (tVar 2) (tVar 3) (tVar 4) (tCB (rLenU K) (tCons (tVar 0) tNil))))) (tNot (tTru K (tCall (sp__law_torn K) [] E0 (tCons (tVar 0) (tCons (tVar 3) (tCons (tVar 4) tNil))))))) (tRet (tC (.bl false))) tNext)
    (tAsg (tVar 4) (gName 2))))
    (tRet (tC (.bl true)))))
theorem sD_at {sts : List (Int × Int)} {i : Nat} {x : PyData} (h : (sts.map sD)[i]? = some x) : ∃ c, sts[i]? = some c ∧ x = sD c := by
  rw [List.getElem?_map] at h
  cases e : sts[i]? with
  | none => rw [e] at h; cases h
  | some c => rw [e] at h; exact ⟨c, rfl, (Option.some.inj h).symm⟩
theorem rd__law_due {K : PySem.W.Frag} (vs : List V) (H : Hp) (Q : VK) (E : XK) (h : sp__law_due K vs H Q E) : r__law_due K { nx := fun _ H' => Q .non H', rt := Q } (start ["_law_every_here", "_law_stretches_here", "_law_ahead", "_law_first", "_law_last"] vs) H := by
  obtain ⟨v, w, cs, sts, rfl, hv, hw, hok, hs, k⟩ := h
  have nW : ∀ (N : Addr → Prop) (a : Addr), R0.W a → N a := fun _ _ z => z.elim
  have ls : (sts.map sD).length = sts.length := List.length_map ..
  have lcd : (cs.map natsD).length = cs.length := List.length_map ..
  have cl := hok.1
  refine q_asg (R := R0) (N := No) (d := .int 0) e_int trivial fun z H2 e2 rz => ?_
  cases rz
  refine q_forLeG (R := R0) (Re := R0) (N := No) (e_var rfl (hw.le e2 (nW _)) (nW _)) trivial (nW _) fun H3 e3 => ⟨fun i σ' H' => (∃ (a b : Option V) (c : Int), σ' = [some v, some w, some (.int c), a, b] ∧ 0 ≤ c ∧ holdsP cs 0 sts = holdsP cs c (sts.drop i)) ∧ Le R0 H3 H', ⟨⟨_, _, 0, rfl, Int.le_refl _, rfl⟩, Le.refl trivial⟩, fun i σ' H' q => q.2, fun i y u σ' H' hi q r => ?_, fun σ' H' q => ?_⟩
  · obtain ⟨⟨a, b, c, rfl, hc0, hh⟩, l3⟩ := q
    have l0 := (e2.trans e3).trans l3
    obtain ⟨p, hp, rfl⟩ := sD_at hi
    have dr : sts.drop i = p :: sts.drop (i + 1) := by
      obtain ⟨hi, e⟩ := List.getElem?_eq_some_iff.1 hp
      rw [← e]
      exact List.drop_eq_getElem_cons hi
    rw [dr, holdsP] at hh
    obtain ⟨at_, xs, rfl, ht, ra⟩ := r.tupy
    cases ra with
    | cons r1 ra => cases ra with
      | cons r2 ra =>
        cases ra; cases r1; cases r2
        refine ⟨at_, _, rfl, SqT.of ht, rfl, _, _, rfl, _, _, rfl, rfl, ?_⟩
        have hv0 := hv.le l0 (nW _)
        have evc : ∀ {H4 : Hp}, Le R0 H' H4 → Ev R0 (tVar 0) [some v, some w, some (.int c), some (.int p.1), some (.int p.2)] H4 No (.list (cs.map natsD)) := fun e => e_var rfl (hv0.le e (nW _)) (nW _)
        have t1 : EvT R0 (tOr (tNot (tTest (tChain3 rLe3 rLe3 rLt3 (tVar 2) (tVar 3) (tVar 4) (tCB (rLenU K) (tCons (tVar 0) tNil))))) (tNot (tTru K (tCall (sp__law_torn K) [] E0 (tCons (tVar 0) (tCons (tVar 3) (tCons (tVar 4) tNil))))))) [some v, some w, some (.int c), some (.int p.1), some (.int p.2)] H' (!fits cs.length c p || !tornP (cutC cs p.1 p.2)) := by
          refine t_or (t_not (EvT.is (t_ch3 (N := No) (a := c) (b := p.1) (c := p.2) (d := (cs.length : Nat)) (e_vi rfl) (e_vi rfl) (e_vi rfl) ((e_lenl (N := No) (evc (Le.refl trivial))).is (by rw [lcd]))) rfl)) fun c1 => ?_
          have c1' : fits cs.length c p = true := by cases z : fits cs.length c p with
            | true => rfl
            | false => rw [z] at c1; cases c1
          unfold fits at c1'
          rw [Bool.and_eq_true, Bool.and_eq_true, decide_eq_true_iff, decide_eq_true_iff, decide_eq_true_iff] at c1'
          obtain ⟨f, hf1⟩ : ∃ f : Nat, p.1 = f := ⟨p.1.toNat, by omega⟩
          obtain ⟨l, hl1⟩ : ∃ l : Nat, p.2 = l := ⟨p.2.toNat, by omega⟩
          refine t_not (t_trub (N := No) fun H5 e Q q => ⟨_, rfl, _, rfl, _, rfl, v, cs, f, l, by rw [hf1, hl1]; rfl, hv0.le e (nW _), by omega, by omega, cl, hok.2, fun H6 e6 => ?_⟩)
          rw [hf1, hl1] at q
          exact q _ H6 (Le.r0 e6) (.bl _)
        refine q_if (R := R0) t1 trivial (fun c1 H4 e4 => ?_) (fun c1 H4 e4 => ?_)
        · have hh2 : holdsP cs 0 sts = false := by
            rw [hh]
            cases z1 : fits cs.length c p with
            | false => rfl
            | true =>
              rw [z1] at c1
              cases z2 : tornP (cutC cs p.1 p.2) with
              | false => rfl
              | true => rw [z2] at c1; cases c1
          have := k H4 (l0.trans e4).ex
          rw [hh2] at this
          exact this
        · have hh2 : holdsP cs 0 sts = holdsP cs p.2 (sts.drop (i + 1)) ∧ fits cs.length c p = true := by
            rw [hh]
            cases z1 : fits cs.length c p with
            | false => rw [z1] at c1; cases c1
            | true =>
              rw [z1] at c1
              cases z2 : tornP (cutC cs p.1 p.2) with
              | false => rw [z2] at c1; cases c1
              | true => exact ⟨rfl, rfl⟩
          have c1' := hh2.2
          unfold fits at c1'
          rw [Bool.and_eq_true, Bool.and_eq_true, decide_eq_true_iff, decide_eq_true_iff, decide_eq_true_iff] at c1'
          refine s_asg (R := R0) (N := No) (d := .int p.2) (e_vi rfl) trivial fun y H6 e6 ry => ?_
          cases ry
          exact ⟨⟨_, _, p.2, rfl, by omega, hh2.1⟩, (l3.trans e4).trans e6⟩
  · obtain ⟨⟨a, b, c, rfl, hc0, hh⟩, l3⟩ := q
    rw [List.drop_of_length_le (by rw [ls]; exact Nat.le_refl _)] at hh
    have := k H' ((e2.trans e3).trans l3).ex
    rw [hh] at this
    exact this
section
variable {R : Rg} {K : PySem.W.Frag} {σ : L2.St} {H : Hp} {N N' : Addr → Prop} {D : Ends} {ta tb tc te ti : TE} {t u : TT} {φ ψ χ : Int → Prop} {φb : Bool → Prop}
theorem z_pick3 (ha : EvZ R ta σ H χ) (hb : EvZ R tb σ H χ) (hc : EvZ R tc σ H χ) (hi : EvZ R ti σ H (fun z => 0 ≤ z ∧ z < 3)) : EvZ R (tOp (rIx K) (tLst (tCons ta (tCons tb (tCons tc tNil)))) ti) σ H χ := fun H1 e Q q =>
  ha H1 e _ fun i H2 e2 p => hb H2 (e.trans e2) _ fun j H3 e3 p' => hc H3 ((e.trans e2).trans e3) _ fun l H4 e4 p2 => ⟨by show 3 ≤ sizeLine; decide, fun a hp => by
    have l4 : Le R H4 (upd H4 a (.lst [.int i, .int j, .int l])) := Le.new hp e4.ok
    have aW : ¬ R.W a := notW_of e4.ok hp
    have e14 := (e2.trans e3).trans e4
    refine hi _ ((e.trans e14).trans l4) _ fun z H5 e5 pz => ?_
    have h5 := e5.ext a _ aW upd_same
    rcases (by omega : z = 0 ∨ z = 1 ∨ z = 2) with rfl | rfl | rfl
    · exact .inl ⟨a, _, 0, .int i, rfl, rfl, SqL.of h5, rfl, q _ H5 ((e14.trans l4).trans e5) p⟩
    · exact .inl ⟨a, _, 1, .int j, rfl, rfl, SqL.of h5, rfl, q _ H5 ((e14.trans l4).trans e5) p'⟩
    · exact .inl ⟨a, _, 2, .int l, rfl, rfl, SqL.of h5, rfl, q _ H5 ((e14.trans l4).trans e5) p2⟩⟩
theorem z_mul (ha : EvZ R ta σ H φ) (hb : EvZ R tb σ H ψ) (hs : ∀ i, φ i → -1000 < i ∧ i < 1000) (f : ∀ i j, φ i → ψ j → χ (i * j)) : EvZ R (tOp rMulU ta tb) σ H χ := fun H1 e Q q =>
  ha H1 e _ fun i H2 e2 p => hb H2 (e.trans e2) _ fun j H3 e3 p' => .inl ⟨i, j, rfl, rfl, .inl (by have := hs i p; constructor <;> omega), q _ H3 (e2.trans e3) (f i j p p')⟩
theorem p_ixD {ds : List PyData} (ha : Ev R ta σ H N (.list ds)) (hb : EvZ R tb σ H (fun z => 0 ≤ z ∧ z < ds.length)) (hW : ∀ a, R.W a → N a) : EvP R (tOp (rIx K) ta tb) σ H N (fun d => d ∈ ds) := fun H1 e Q q =>
  ha H1 e _ fun v H2 e2 r1 => hb H2 (e.trans e2) _ fun i H3 e3 p => by
    obtain ⟨a, xs, rfl, na, hl, ra⟩ := (r1.le e3 hW).listy
    obtain ⟨j, rfl⟩ : ∃ j : Nat, i = (j : Int) := ⟨i.toNat, by omega⟩
    have hi : j < ds.length := by omega
    obtain ⟨w, hw, rw_⟩ := atI_vs ra (i := (j : Int)) (d := ds[j]) (atI_nat (List.getElem?_eq_getElem hi))
    exact .inl ⟨a, _, (j : Int), _, rfl, rfl, SqL.of hl, hw, q _ _ H3 (e2.trans e3) (List.getElem_mem hi) rw_⟩
theorem tp_and {a : Bool} (h1 : EvT R t σ H a) (h2 : a = true → EvTP R u σ H φb) : EvTP R (tAnd t u) σ H (fun b => b = true → a = true) := fun H1 e Q q => h1 H1 e _ fun H2 e2 => by
  cases a with
  | true =>
    show u σ H2 Q
    exact h2 rfl H2 (e.trans e2) Q fun b H3 e3 _ => q b H3 (e2.trans e3) fun _ => rfl
  | false => exact q false H2 e2 fun z => nomatch z
theorem tp_or {a : Bool} (h1 : EvT R t σ H a) (h2 : a = false → EvTP R u σ H φb) : EvTP R (tOr t u) σ H (fun b => b = false → a = false) := fun H1 e Q q => h1 H1 e _ fun H2 e2 => by
  cases a with
  | true => exact q true H2 e2 fun z => nomatch z
  | false =>
    show u σ H2 Q
    exact h2 rfl H2 (e.trans e2) Q fun b H3 e3 _ => q b H3 (e2.trans e3) fun _ => rfl
end
theorem s_any {N N' : Addr → Prop} {H : Hp} {ps : List (Int × Int)} {vs : List V} (h : DtA N H (ps.map sD) vs) : DtA N' H (ps.map sD) vs := by
  induction ps generalizing vs with
  | nil => cases h; exact .nil
  | cons a r ih => cases h with
    | cons x t =>
      refine .cons ?_ (ih t)
      cases x with
      | tup hl ra => exact .tup hl (by cases ra with
        | cons r1 ra => cases ra with
          | cons r2 ra => cases ra; cases r1; cases r2; exact .cons (.int _) (.cons (.int _) .nil))
def sp__law_stretches (K : PySem.W.Frag) : Sp := fun vs H Q _ => ∃ (ar as : Addr) (sc : List Int) (v : V) (cs : List (List Nat)), vs = [.ref ar, v] ∧ RowI K ar as sc H ∧ Dt (fun a => a = ar) H (chosenD cs) v ∧ Ok8 cs ∧
  ∀ (sts : List (Int × Int)) (u : V) (H' : Hp), sts.length ≤ 10 → Le (Rr K ar as sc) H H' → Dt (Dom H) H' (.list (sts.map sD)) u → Q u H'
abbrev r6_some (K : PySem.W.Frag) : TE := (tLc (iRng2 (tCons (tVar 5) (tCons (tCB (rLenU K) (tCons (tVar 1) tNil)) tNil))) (gName 7) (tTru K (tCall (sp__law_torn K) [] E0 (tCons (tVar 1) (tCons (tVar 5) (tCons (tVar 7) tNil))))) (tVar 7) [7])
abbrev r6_draw (K : PySem.W.Frag) (n : Int) : TE := (tCall (sp__law_taken K) [] E0 (tCons (tVar 0) (tCons (tC (.int n)) tNil)))
abbrev r6_tail (K : PySem.W.Frag) : TS :=
    (tSeq (tIfS (tOr (tTest (tOp (rEqD K) (tCB (rLenU K) (tCons (tVar 1) tNil)) (tC (.int 0)))) (tAnd (tTest (tOp (rI0 fun i j => .bl (decide (j ≤ i))) (tVar 7) (tCB (rLenU K) (tCons (tVar 1) tNil)))) (tTest (tOp (rI0 fun i j => .bl (decide (j < i))) (r6_draw K 4) (tC (.int 0)))))) (tRet (tVar 2)) tNext)
    (tSeq (tAsg (tVar 7) (gName 3))
    (tDrop (tBM K "list" rAppend (tVar 2) (tCons (tOp (rIx K) (tLst (tCons (tTup (tCons (tVar 5) (tCons (tVar 7) tNil))) (tCons (tTup (tCons (tVar 7) (tCons (tVar 5) tNil))) (tCons (tTup (tCons (tOp (rI0 fun i j => .int (i - j)) (tVar 5) (tC (.int 1))) (tCons (tVar 7) tNil))) tNil)))) (tOp rMulU (tOp (rI CDivN fun i j => .int (i.fdiv j)) (r6_draw K 24) (tC (.int 22))) (r6_draw K 3))) tNil)))))
abbrev r6_body (K : PySem.W.Frag) : TS :=
    (tSeq (tAsg (tOp (rAddU K) (tVar 3) (tOp (rIx K) (tLst (tCons (tC (.int 0)) (tCons (tC (.int 0)) (tCons (r6_draw K 3) tNil)))) (r6_draw K 3))) (gName 5))
    (tSeq (tAsg (r6_some K) (gName 6))
    (tSeq (tAsg (tOp (rAddU K) (tVar 5) (r6_draw K 4)) (gName 7))
    (tSeq (tIfS (tAnd (tTest (tOp (rNeD K) (tVar 6) (tLst tNil))) (tTest (tOp (rI0 fun i j => .bl (decide (j < i))) (r6_draw K 6) (tC (.int 0))))) (tAsg (tOp (rAddU K) (tOp (rIx K) (tVar 6) (tC (.int 0))) (tOp (rI CDivN fun i j => .int (i.fdiv j)) (r6_draw K 6) (tC (.int 5)))) (gName 7)) tNext)
    (r6_tail K)))))
abbrev r__law_stretches (K : PySem.W.Frag) : TS :=
    (tSeq (tAsg (tLst tNil) (gName 2))
    (tSeq (tAsg (tC (.int 0)) (gName 3))
    (tSeq (tFor (iRng1 (tCons (r6_draw K 7) tNil)) (gName 4) (r6_body K))
    (tRet (tVar 2)))))
end FF
set_option Elab.async false
set_option linter.all false
set_option maxRecDepth 100000
set_option maxHeartbeats 4000000
/-! k06: the law's stretches -/
namespace FF
open PySem PySem.Spec PyProof.Rows L2
open GxR (TabB TabG Tabbed)
section
variable {K : PySem.W.Frag} {ar as : Addr} {sc : List Int} {σ : L2.St} {H : Hp} {D : Ends}
theorem z_d6 {n : Int} (hσ : σ[0]? = some (some (.ref ar))) (h0 : 0 < n) (h1 : n < 1000000000) : EvZ (Rr K ar as sc) (r6_draw K n) σ H (fun z => 0 ≤ z ∧ z < n) := z_draw (N := No) hσ e_int h0 h1
/-- behind the draws: found returned, or one stretch more -/
theorem tail6 {H0 : Hp} {v x4 x6 : V} {p : Addr} {at_ f l : Int} {cs : List (List Nat)} {us : List V} {sts : List (Int × Int)} (hv : Dt (fun a => a = ar) H (chosenD cs) v) (l0 : Le (Rr K ar as sc) H0 H) (hp : H0 p = none) (hu : H p = some (.lst us)) (ru : DtA No H (sts.map sD) us) (hs : sts.length ≤ 9)
    (k : ∀ H' u, Le (Rr K ar as sc) H0 H' → Dt (Dom H0) H' (.list (sts.map sD)) u → D.rt u H')
    (q : ∀ (H' : Hp) (us' : List V) (sts' : List (Int × Int)), Le (Rr K ar as sc) H0 H' → H' p = some (.lst us') → DtA No H' (sts'.map sD) us' → sts'.length = sts.length + 1 → D.nx [some (.ref ar), some v, some (.ref p), some (.int l), some x4, some (.int f), some x6, some (.int l)] H') :
    r6_tail K D [some (.ref ar), some v, some (.ref p), some (.int at_), some x4, some (.int f), some x6, some (.int l)] H := by
  have nW : ∀ a, (Rr K ar as sc).W a → a = ar := fun a w => w
  have pW : ¬ (Rr K ar as sc).W p := notW_of l0.ok0 hp
  have ok := l0.ok
  have lcd : (cs.map natsD).length = cs.length := List.length_map ..
  have evl : ∀ {N : Addr → Prop}, Ev (Rr K ar as sc) (tCB (rLenU K) (tCons (tVar 1) tNil)) [some (.ref ar), some v, some (.ref p), some (.int at_), some x4, some (.int f), some x6, some (.int l)] H N (.int (cs.length : Nat)) := (e_lenl (N := fun a => a = ar) (e_var rfl hv nW)).is (by rw [lcd])
  have t : EvTP (Rr K ar as sc) (tOr (tTest (tOp (rEqD K) (tCB (rLenU K) (tCons (tVar 1) tNil)) (tC (.int 0)))) (tAnd (tTest (tOp (rI0 fun i j => .bl (decide (j ≤ i))) (tVar 7) (tCB (rLenU K) (tCons (tVar 1) tNil)))) (tTest (tOp (rI0 fun i j => .bl (decide (j < i))) (r6_draw K 4) (tC (.int 0)))))) [some (.ref ar), some v, some (.ref p), some (.int at_), some x4, some (.int f), some x6, some (.int l)] H (fun b => b = false → decide (((cs.length : Nat) : Int) = 0) = false) :=
    tp_or (t_cmp (N := fun a => a = ar) ((e_eq (N := fun a => a = ar) (d := .int (cs.length : Nat)) (e := .int 0) evl e_int nW (shaped_int _) (shaped_int _)).is (by rw [eqv_int]))) fun _ => tp_and (a := decide (((cs.length : Nat) : Int) ≤ l)) (t_cmp (N := No) (e_IB (g := fun i j => decide (j ≤ i)) (e_vi rfl) evl)) fun _ => t_gtZ (N := No) (z_d6 rfl (by decide) (by decide)) e_int
  refine q_ifP (R := Rr K ar as sc) t ok (fun _ H2 e2 => ?_) (fun _ H2 e2 => ?_)
  · have l2 := l0.trans e2
    exact ⟨_, rfl, k H2 (.ref p) l2 (.lst (fun ⟨o, z⟩ => by rw [hp] at z; cases z) (e2.ext p _ pW hu) (s_any ((s_any (N' := fun a => a = ar) ru).le e2 nW)))⟩
  · refine q_asg (R := Rr K ar as sc) (N := No) (d := .int l) (e_vi rfl) e2.ok fun y H3 e3 ry => ?_
    cases ry
    have e23 := e2.trans e3
    have l3 := l0.trans e23
    have nk3 : Nk (Rr K ar as sc) (fun a => a = ar) H3 := ⟨nW, fun a e z => by rw [e] at z; obtain ⟨o, q, _⟩ := (Rr K ar as sc).wt H3 ar l3.ok rfl; rw [z] at q; cases q⟩
    have tp : ∀ {ta tb : TE} {a b : Int}, Ev (Rr K ar as sc) ta [some (.ref ar), some v, some (.ref p), some (.int l), some x4, some (.int f), some x6, some (.int l)] H3 (fun a => a = ar) (.int a) → Ev (Rr K ar as sc) tb [some (.ref ar), some v, some (.ref p), some (.int l), some x4, some (.int f), some x6, some (.int l)] H3 (fun a => a = ar) (.int b) → Ev (Rr K ar as sc) (tTup (tCons ta (tCons tb tNil))) [some (.ref ar), some v, some (.ref p), some (.int l), some x4, some (.int f), some x6, some (.int l)] H3 (fun a => a = ar) (sD (a, b)) := fun {ta tb a b} ha hb => (e_tup (ds := [.int a, .int b]) (a_cons ha (a_one hb) nW) nW (by show 2 ≤ 100000; decide)).is rfl
    have ls : Ev (Rr K ar as sc) (tLst (tCons (tTup (tCons (tVar 5) (tCons (tVar 7) tNil))) (tCons (tTup (tCons (tVar 7) (tCons (tVar 5) tNil))) (tCons (tTup (tCons (tOp (rI0 fun i j => .int (i - j)) (tVar 5) (tC (.int 1))) (tCons (tVar 7) tNil))) tNil)))) [some (.ref ar), some v, some (.ref p), some (.int l), some x4, some (.int f), some x6, some (.int l)] H3 (fun a => a = ar) (.list ([(f, l), (l, f), (f - 1, l)].map sD)) := (e_lst (ds := [sD (f, l), sD (l, f), sD (f - 1, l)]) (a_cons (tp (e_vi rfl) (e_vi rfl)) (a_cons (tp (e_vi rfl) (e_vi rfl)) (a_one (tp (e_I0 (g := fun i j => i - j) (e_vi rfl) e_int) (e_vi rfl))) nW) nW) nk3 (by show 3 ≤ 100000; decide)).is rfl
    have ix : EvZ (Rr K ar as sc) (tOp rMulU (tOp (rI CDivN fun i j => .int (i.fdiv j)) (r6_draw K 24) (tC (.int 22))) (r6_draw K 3)) [some (.ref ar), some v, some (.ref p), some (.int l), some x4, some (.int f), some x6, some (.int l)] H3 (fun z => 0 ≤ z ∧ z < ([(f, l), (l, f), (f - 1, l)].map sD).length) := z_mul (φ := fun z => z = 0 ∨ z = 1) (ψ := fun z => 0 ≤ z ∧ z < 3) (z_div (N := No) (φ := fun z => 0 ≤ z ∧ z < 24) (z_d6 rfl (by decide) (by decide)) e_int (by decide) fun i hi => by
      rw [Int.fdiv_eq_ediv_of_nonneg _ (by decide)]
      omega) (z_d6 rfl (by decide) (by decide)) (fun i hi => by omega) fun i j hi hj => by
      show 0 ≤ i * j ∧ i * j < 3
      rcases hi with rfl | rfl <;> omega
    refine s_appP (R := Rr K ar as sc) (N := fun a => a = ar) (i := 2) (p := p) (xs := us) (φp := fun d => ∃ c, d = sD c) rfl (e23.ext p _ pW hu) pW ((p_ixD ls ix nW).imp fun d hd => by obtain ⟨c, _, e⟩ := List.mem_map.1 hd; exact ⟨c, e.symm⟩) e3.ok (by rw [ru.length, List.length_map]; omega) fun d y H5 e5 hd ry h5 => ?_
    obtain ⟨c, rfl⟩ := hd
    have e35 := e23.trans e5
    have l5 := l0.trans e35
    have l4 : Le ((Rr K ar as sc).plus p) H5 (upd H5 p (.lst (us ++ [y]))) := (Le.refl (R := (Rr K ar as sc).plus p) (H := H5) ⟨l5.ok, pW, _, h5⟩).setp h5
    have r5 : DtA No H5 (sts.map sD) us := s_any ((s_any (N' := fun a => a = ar) ru).le e35 nW)
    have r6 : DtA No H5 ([c].map sD) [y] := s_any (N := fun a => a = ar) (.cons ry .nil)
    refine q _ (us ++ [y]) (sts ++ [c]) (l5.put hp h5) upd_same ?_ (by rw [List.length_append]; rfl)
    rw [List.map_append]
    exact DtA.append (s_any ((s_any (N' := fun a => (Rr K ar as sc).W a ∨ a = p) r5).le l4 fun a w => w)) (s_any ((s_any (N' := fun a => (Rr K ar as sc).W a ∨ a = p) r6).le l4 fun a w => w))
theorem rd__law_stretches {K : PySem.W.Frag} (vs : List V) (H : Hp) (Q : VK) (E : XK) (h : sp__law_stretches K vs H Q E) : r__law_stretches K { nx := fun _ H' => Q .non H', rt := Q } (start ["_law_row", "_law_every_here", "_law_found", "_law_at", "_law_k", "_law_first", "_law_some", "_law_last"] vs) H := by
  obtain ⟨ar, as, sc, v, cs, rfl, ok, hv, hok, k⟩ := h
  have nW : ∀ a, (Rr K ar as sc).W a → a = ar := fun a w => w
  have lcd : (cs.map natsD).length = cs.length := List.length_map ..
  have cl := hok.1
  refine q_asgNew (R := Rr K ar as sc) ok fun p H1 hp e1 h1 => ?_
  have pW : ¬ (Rr K ar as sc).W p := notW_of ok hp
  refine q_asg (R := Rr K ar as sc) (N := No) (d := .int 0) e_int e1.ok fun z H2 e2 rz => ?_
  cases rz
  have e12 := e1.trans e2
  refine q_forZ (R := Rr K ar as sc) (φ := fun n => 0 ≤ n ∧ n < 7) (fun i σ' H' => (∃ (x4 x5 x6 x7 : Option V) (a : Int), σ' = [some (.ref ar), some v, some (.ref p), some (.int a), x4, x5, x6, x7] ∧ 0 ≤ a ∧ a ≤ 1010 + 10 * i) ∧ Le (Rr K ar as sc) H H' ∧ ∃ (us : List V) (sts : List (Int × Int)), H' p = some (.lst us) ∧ DtA No H' (sts.map sD) us ∧ sts.length = i)
    (z_d6 rfl (by decide) (by decide)) e2.ok (fun n q => by omega) (fun n H3 e3 _ => ⟨⟨_, _, _, _, 0, rfl, Int.le_refl _, by omega⟩, e12.trans e3, [], [], e3.ext p _ pW (e2.ext p _ pW h1), .nil, rfl⟩) (fun n i σ' H' hn hi pv => ?_) (fun n σ' H' hn pv => ?_)
  · obtain ⟨⟨x4, x5, x6, x7, a, rfl, a0, a1⟩, l0, us, sts, hu, ru, hs⟩ := pv
    have i7 : i < 7 := by omega
    refine q_asgZ (R := Rr K ar as sc) (φ := fun z => a ≤ z ∧ z ≤ a + 2) (z_add (φ := fun z => z = a) (ψ := fun z => 0 ≤ z ∧ z ≤ 2) (z_of (N := No) (e_vi rfl) rfl) (z_pick3 (χ := fun z => 0 ≤ z ∧ z ≤ 2) (z_of (N := No) e_int (by decide)) (z_of (N := No) e_int (by decide)) ((fun H1 e Q q => z_d6 (n := 3) rfl (by decide) (by decide) H1 e Q fun z H2 e2 pz => q z H2 e2 (by omega))) (z_d6 rfl (by decide) (by decide))) fun x y hx hy => by omega) l0.ok fun f H3 e3 hf => ?_
    have l3 := l0.trans e3
    obtain ⟨fn, hfn⟩ : ∃ fn : Nat, f = fn := ⟨f.toNat, by omega⟩
    subst hfn
    have hv3 := hv.le l3 nW
    have nk3 : Nk (Rr K ar as sc) (fun a => a = ar) H3 := ⟨nW, fun a e z => by rw [e] at z; obtain ⟨o, q, _⟩ := (Rr K ar as sc).wt H3 ar l3.ok rfl; rw [z] at q; cases q⟩
    have some6 : EvP (Rr K ar as sc) (r6_some K) [some (.ref ar), some v, some (.ref p), some (.int a), some (.int (i : Int)), some (.int (fn : Int)), x6, x7] H3 (fun a => a = ar) (fun d => ∃ ns : List Int, d = .list (ns.map .int) ∧ ns.length ≤ 1000 ∧ ∀ z ∈ ns, 0 ≤ z ∧ z < cs.length) := by
      refine (p_lcR2 (lo := (fn : Int)) (n := ((cs.map natsD).length : Int)) (fun d o => o = if tornP (cutC cs fn ((fn + d : Nat) : Int)) = true then some (PyData.int ((fn : Int) + (d : Nat))) else none) (fun H4 e Q q => ⟨_, rfl, (e_lenl (N := fun a => a = ar) (N' := No) (e_var rfl (hv3.le e nW) nW)) H4 (Le.refl e.ok) _ fun v H5 e5 r => by cases r; exact q H5 e5⟩) (by rw [lcd]; omega) nk3 (fun _ => rfl) fun d D H4 hD e4 nk4 hd => ?_).imp fun dd o => ?_
      · rw [lcd] at hd
        refine f_det (t_trub (N := No) fun H5 e Q q => ⟨_, rfl, _, rfl, _, rfl, v, cs, fn, fn + d, by rw [List.append_nil]; rfl, ((hv3.le e4 nW).le e nW).no, by omega, by omega, cl, hok.2, fun H6 e6 => q _ H6 (Le.of_ex e6 e.ok) (.bl _)⟩) fun _ => e_vi rfl
      · have o2 := out_det (f := fun d => tornP (cutC cs fn ((fn + d : Nat) : Int))) (g := fun d : Nat => PyData.int ((fn : Int) + (d : Nat))) o
        refine ⟨((List.range (((cs.map natsD).length : Int) - (fn : Int)).toNat).filter fun d => tornP (cutC cs fn ((fn + d : Nat) : Int))).map fun d : Nat => (fn : Int) + (d : Nat), by rw [o2, List.map_map]; rfl, ?_, fun z hz => ?_⟩
        · rw [List.length_map]
          have := List.length_filter_le (fun d => tornP (cutC cs fn ((fn + d : Nat) : Int))) (List.range (((cs.map natsD).length : Int) - (fn : Int)).toNat)
          rw [List.length_range, lcd] at this
          rw [lcd]
          omega
        · obtain ⟨d, hd, rfl⟩ := List.mem_map.1 hz
          have := List.mem_range.1 (List.mem_filter.1 hd).1
          rw [lcd] at this
          omega
    refine q_asgP (R := Rr K ar as sc) (N := fun a => a = ar) some6 e3.ok fun d vs H4 e4 hd rs => ?_
    obtain ⟨ns, rfl, nl, hns⟩ := hd
    refine q_asgZ (R := Rr K ar as sc) (φ := fun z => (fn : Int) ≤ z ∧ z ≤ fn + 3) (z_add (φ := fun z => z = fn) (ψ := fun z => 0 ≤ z ∧ z < 4) (z_of (N := No) (e_vi rfl) rfl) (z_d6 rfl (by decide) (by decide)) fun x y hx hy => by omega) e4.ok fun l1 H5 e5 hl1 => ?_
    have l5 := (l3.trans e4).trans e5
    have fin : ∀ (l : Int) (H6 : Hp), Le (Rr K ar as sc) H5 H6 → 0 ≤ l → l ≤ 1010 + 10 * (i + 1 : Nat) → r6_tail K { nx := fun σ' H' => (∃ (x4 x5 x6 x7 : Option V) (a : Int), σ' = [some (.ref ar), some v, some (.ref p), some (.int a), x4, x5, x6, x7] ∧ 0 ≤ a ∧ a ≤ 1010 + 10 * ((i + 1 : Nat) : Int)) ∧ Le (Rr K ar as sc) H H' ∧ ∃ (us : List V) (sts : List (Int × Int)), H' p = some (.lst us) ∧ DtA No H' (sts.map sD) us ∧ sts.length = i + 1, rt := Q, bk := tRet (tVar 2) { nx := fun _ H' => Q .non H', rt := Q }, ct := fun σ' H' => (∃ (x4 x5 x6 x7 : Option V) (a : Int), σ' = [some (.ref ar), some v, some (.ref p), some (.int a), x4, x5, x6, x7] ∧ 0 ≤ a ∧ a ≤ 1010 + 10 * ((i + 1 : Nat) : Int)) ∧ Le (Rr K ar as sc) H H' ∧ ∃ (us : List V) (sts : List (Int × Int)), H' p = some (.lst us) ∧ DtA No H' (sts.map sD) us ∧ sts.length = i + 1 } [some (.ref ar), some v, some (.ref p), some (.int a), some (.int (i : Int)), some (.int (fn : Int)), some vs, some (.int l)] H6 := fun l H6 e6 h0 h9 => by
      have e36 := ((e3.trans e4).trans e5).trans e6
      have l6 := l0.trans e36
      refine tail6 (H0 := H) (cs := cs) (us := us) (sts := sts) (hv.le l6 nW) l6 hp (e36.ext p _ pW hu) (s_any ((s_any (N' := fun a => a = ar) ru).le e36 nW)) (by omega) (fun H7 u e7 r7 => k sts u H7 (by omega) e7 r7) fun H7 us' sts' e7 h7 r7 hl7 => ?_
      exact ⟨⟨_, _, _, _, l, rfl, h0, h9⟩, e7, us', sts', h7, r7, by omega⟩
    have t : EvTP (Rr K ar as sc) (tAnd (tTest (tOp (rNeD K) (tVar 6) (tLst tNil))) (tTest (tOp (rI0 fun i j => .bl (decide (j < i))) (r6_draw K 6) (tC (.int 0))))) [some (.ref ar), some v, some (.ref p), some (.int a), some (.int (i : Int)), some (.int (fn : Int)), some vs, some (.int l1)] H5 (fun b => b = true → (!ns.isEmpty) = true) := by
      have nk5 : Nk (Rr K ar as sc) (fun a => a = ar) H5 := ⟨nW, fun a e z => by rw [e] at z; obtain ⟨o, q, _⟩ := (Rr K ar as sc).wt H5 ar l5.ok rfl; rw [z] at q; cases q⟩
      refine tp_and (t_cmp ((e_ne (N := fun a => a = ar) (d := .list (ns.map .int)) (e := .list []) (e_var rfl (rs.le e5 nW) nW) (e_lst a_nil nk5 (by decide)) nW (ok_shaped (n := 1) ⟨by rw [List.length_map]; omega, fun x hx => by obtain ⟨z, _, rfl⟩ := List.mem_map.mp hx; exact ok_int _ _⟩ (by decide)) shaped_nil).is (by rw [eqv_empty]))) fun _ => t_gtZ (N := No) (z_d6 rfl (by decide) (by decide)) e_int
    refine q_ifP (R := Rr K ar as sc) t e5.ok (fun c H6 e6 => ?_) (fun _ H6 e6 => ?_)
    · have c2 := c rfl
      obtain ⟨z0, ns', rfl⟩ : ∃ z0 ns', ns = z0 :: ns' := by
        cases ns with
        | nil => cases c2
        | cons z0 ns' => exact ⟨z0, ns', rfl⟩
      have hz := hns z0 (List.mem_cons_self ..)
      refine s_asgZ (R := Rr K ar as sc) (φ := fun z => z0 ≤ z ∧ z ≤ z0 + 1) (z_add (φ := fun z => z = z0) (ψ := fun z => 0 ≤ z ∧ z ≤ 1) (z_of (N := fun a => a = ar) (e_ixl (i := 0) (ds := (z0 :: ns').map .int) (e_var rfl ((rs.le e5 nW).le e6 nW) nW) e_int nW (show atI _ ((0 : Nat) : Int) = _ from atI_nat rfl)) rfl) (z_div (N := No) (φ := fun z => 0 ≤ z ∧ z < 6) (z_d6 rfl (by decide) (by decide)) e_int (by decide) fun x hx => by
        rw [Int.fdiv_eq_ediv_of_nonneg _ (by decide)]
        omega) fun x y hx hy => by omega) e6.ok fun l2 H7 e7 hl2 => ?_
      exact fin l2 H7 (e6.trans e7) (by omega) (by omega)
    · exact fin l1 H6 e6 (by omega) (by omega)
  · obtain ⟨⟨x4, x5, x6, x7, a, rfl, a0, a1⟩, l0, us, sts, hu, ru, hs⟩ := pv
    exact ⟨_, rfl, k sts _ H' (by omega) l0 (.lst (fun ⟨o, z⟩ => by rw [hp] at z; cases z) hu (s_any ru))⟩
end
end FF
set_option Elab.async false
set_option linter.all false
set_option maxRecDepth 100000
set_option maxHeartbeats 4000000
/-! k06: the mathematics: no row has fewer changes than there are torn stretches -/
namespace FF
open PySem PySem.Spec PyProof.Rows L2
/-- a row tells of each cluster what it may -/
def Valid (cs : List (List Nat)) (r : List (Option Nat)) : Prop := r.length = cs.length ∧ ∀ (i : Nat) (c : List Nat) (f : Option Nat), cs[i]? = some c → r[i]? = some f → f ∈ tell c
theorem valid_snoc {cs : List (List Nat)} {r : List (Option Nat)} {c : List Nat} {f : Option Nat} (h : Valid cs r) (hf : f ∈ tell c) : Valid (cs ++ [c]) (r ++ [f]) := by
  refine ⟨by rw [List.length_append, List.length_append, h.1]; rfl, fun i c' f' h1 h2 => ?_⟩
  by_cases hi : i < cs.length
  · rw [List.getElem?_append_left hi] at h1
    rw [List.getElem?_append_left (by rw [h.1]; exact hi)] at h2
    exact h.2 i c' f' h1 h2
  · rw [List.getElem?_append_right (by omega)] at h1
    rw [List.getElem?_append_right (by rw [h.1]; omega), h.1] at h2
    have : i - cs.length = 0 := by
      have := (List.getElem?_eq_some_iff.1 h1).1
      rw [List.length_singleton] at this
      omega
    rw [this] at h1 h2
    cases h1; cases h2
    exact hf
theorem fold_valid (ranks : List Int) (ps : List (List Nat × Option Nat)) : ∀ (cs0 : List (List Nat)) (l : List St4), (∀ s ∈ l, Valid cs0 s.row) → l ≠ [] → ∀ s ∈ ps.foldl (stepP ranks) l, Valid (cs0 ++ ps.map (·.1)) s.row := by
  induction ps with
  | nil => intro cs0 l h _ s hs; rw [List.map_nil, List.append_nil]; exact h s hs
  | cons p ps ih =>
    intro cs0 l h hl s hs
    have := ih (cs0 ++ [p.1]) (stepP ranks l p) (fun s hs => ?_) (step_ne _ _ _) s hs
    · rw [List.append_assoc] at this
      exact this
    · unfold stepP at hs
      obtain ⟨f, hf, rfl⟩ := List.mem_map.1 hs
      obtain ⟨t, ht, e⟩ := llP_mem (ranks := ranks) (f := f) (h := p.2) hl
      rw [e]
      exact valid_snoc (h t ht) hf
theorem shown_valid (fs : List Face) (t : List Int) : Valid (chosen fs t) (shownP fs t) := by
  have h := fold_valid (fs.map (·.rank)) ((chosen fs t).zip (List.replicate (chosen fs t).length none)) [] [s0] (fun s hs => by rw [List.mem_singleton.1 hs]; exact ⟨rfl, fun i c f h => by simp at h⟩) (List.cons_ne_nil _ _) _ (bestP_mem (fs.map (·.rank)) ((chosen fs t).zip (List.replicate (chosen fs t).length none)))
  rw [List.nil_append, List.map_fst_zip (by rw [List.length_replicate]; exact Nat.le_refl _)] at h
  exact h
def chB (r : List (Option Nat)) (i : Nat) : Bool := !decide (r.getD i none = r.getD (i + 1) none)
def cntFrom (r : List (Option Nat)) (a : Int) : Nat := ((List.range (r.length - 1)).filter fun i : Nat => decide (a ≤ (i : Int)) && chB r i).length
theorem filter_more {p q : Nat → Bool} : ∀ {l : List Nat} {x : Nat}, (∀ y ∈ l, q y = true → p y = true) → x ∈ l → p x = true → q x = false → (l.filter q).length + 1 ≤ (l.filter p).length
  | [], _, _, h, _, _ => by cases h
  | a :: l, x, hs, hx, hp, hq => by
    have sub : (l.filter q).length ≤ (l.filter p).length := by
      have : ∀ l : List Nat, (∀ y ∈ l, q y = true → p y = true) → (l.filter q).length ≤ (l.filter p).length := by
        intro l
        induction l with
        | nil => intro _; exact Nat.le_refl _
        | cons b l ih =>
          intro h
          have i := ih fun y hy => h y (List.mem_cons_of_mem _ hy)
          rw [List.filter_cons, List.filter_cons]
          cases hb : q b with
          | true => rw [h b (List.mem_cons_self ..) hb, if_pos rfl, if_pos rfl, List.length_cons, List.length_cons]; omega
          | false =>
            rw [if_neg Bool.false_ne_true]
            split
            · rw [List.length_cons]; omega
            · exact i
      exact this l fun y hy => hs y (List.mem_cons_of_mem _ hy)
    rcases List.mem_cons.1 hx with rfl | hx
    · rw [List.filter_cons, List.filter_cons, hp, hq, if_pos rfl, if_neg Bool.false_ne_true, List.length_cons]
      omega
    · have i := filter_more (fun y hy => hs y (List.mem_cons_of_mem _ hy)) hx hp hq
      rw [List.filter_cons, List.filter_cons]
      cases hb : q a with
      | true => rw [hs a (List.mem_cons_self ..) hb, if_pos rfl, if_pos rfl, List.length_cons, List.length_cons]; omega
      | false =>
        rw [if_neg Bool.false_ne_true]
        split
        · rw [List.length_cons]; omega
        · exact i
theorem torn_change {cs : List (List Nat)} {r : List (Option Nat)} {f l : Nat} (hv : Valid cs r) (hfl : f ≤ l) (hl : l < cs.length) (ht : tornP (cutC cs f l) = true) : ∃ i, f ≤ i ∧ i < l ∧ chB r i = true := by
  by_cases hex : ∃ i, f ≤ i ∧ i < l ∧ chB r i = true
  · exact hex
  · exfalso
    have hlen := hv.1
    have same_ : ∀ d, f + d ≤ l → r.getD (f + d) none = r.getD f none := by
      intro d
      induction d with
      | zero => intro _; rfl
      | succ d ih =>
        intro hd
        have h1 := ih (by omega)
        have h2 : ¬ chB r (f + d) = true := fun z => hex ⟨f + d, by omega, by omega, z⟩
        unfold chB at h2
        have h3 : r.getD (f + d) none = r.getD (f + d + 1) none := by
          by_cases c : r.getD (f + d) none = r.getD (f + d + 1) none
          · exact c
          · rw [decide_eq_false c] at h2; exact absurd rfl h2
        rw [← h1, h3]
        rfl
    have all_ : ∀ c ∈ cutC cs f l, r.getD f none ∈ tell c := fun c hc => by
      unfold cutC at hc
      rw [Int.toNat_natCast, Int.toNat_natCast] at hc
      obtain ⟨d, hd, e⟩ := List.getElem_of_mem hc
      have hd2 : d < l + 1 - f := by rw [List.length_take] at hd; omega
      have hg : cs[f + d]? = some c := by
        rw [← e, List.getElem_take, List.getElem_drop]
        exact List.getElem?_eq_getElem _
      have hr : r[f + d]? = some (r.getD (f + d) none) := by rw [List.getD_eq_getElem?_getD, List.getElem?_eq_getElem (by omega)]; rfl
      rw [← same_ d (by omega)]
      exact hv.2 (f + d) c _ hg hr
    unfold tornP at ht
    rw [Bool.and_eq_true] at ht
    obtain ⟨h1, h2⟩ := ht
    obtain ⟨c, hc, hne⟩ := List.any_eq_true.1 h1
    have cne : c ≠ [] := fun e => by rw [e] at hne; cases hne
    have hx := all_ c hc
    unfold tell at hx
    rw [if_neg cne] at hx
    obtain ⟨g, hg, ex⟩ := List.mem_map.1 hx
    have inall : ∀ c' ∈ cutC cs f l, g ∈ c' := fun c' hc' => by
      have := all_ c' hc'
      rw [← ex] at this
      unfold tell at this
      split at this
      · cases List.mem_singleton.1 this
      · obtain ⟨g', hg', e⟩ := List.mem_map.1 this
        cases e
        exact hg'
    have ne := (cutC_ok (cs := cs) hfl hl).1
    cases hS : cutC cs f l with
    | nil => exact ne hS
    | cons hd tl =>
      rw [hS] at h2 inall
      have := List.filter_eq_nil_iff.1 (List.isEmpty_iff.1 h2) g (inall hd (List.mem_cons_self ..))
      refine this ?_
      unfold inAll
      exact List.all_eq_true.2 fun c' hc' => decide_eq_true (inall c' hc')
theorem holds_count {cs : List (List Nat)} {r : List (Option Nat)} (hv : Valid cs r) : ∀ (sts : List (Int × Int)) (a : Int), 0 ≤ a → holdsP cs a sts = true → sts.length ≤ cntFrom r a
  | [], _, _, _ => Nat.zero_le _
  | p :: sts, a, a0, h => by
    rw [holdsP, Bool.and_eq_true, Bool.and_eq_true] at h
    obtain ⟨h1, h2, h3⟩ := h
    unfold fits at h1
    rw [Bool.and_eq_true, Bool.and_eq_true, decide_eq_true_iff, decide_eq_true_iff, decide_eq_true_iff] at h1
    obtain ⟨f, hf⟩ : ∃ f : Nat, p.1 = f := ⟨p.1.toNat, by omega⟩
    obtain ⟨l, hl⟩ : ∃ l : Nat, p.2 = l := ⟨p.2.toNat, by omega⟩
    rw [hf, hl] at h2
    have ih := holds_count hv sts p.2 (by omega) h3
    obtain ⟨i, i1, i2, i3⟩ := torn_change hv (by omega) (by omega) h2
    have hlen := hv.1
    have : cntFrom r p.2 + 1 ≤ cntFrom r a := by
      unfold cntFrom
      refine filter_more (x := i) (fun y _ hy => ?_) (List.mem_range.2 (by omega)) ?_ ?_
      · rw [Bool.and_eq_true, decide_eq_true_iff] at hy ⊢
        exact ⟨by omega, hy.2⟩
      · rw [Bool.and_eq_true, decide_eq_true_iff]
        exact ⟨by omega, i3⟩
      · rw [decide_eq_false (by omega), Bool.false_and]
    rw [List.length_cons]
    omega
theorem holds_chg {cs : List (List Nat)} {r : List (Option Nat)} {sts : List (Int × Int)} (hv : Valid cs r) (h : holdsP cs 0 sts = true) : sts.length ≤ chg r := by
  have := holds_count hv sts 0 (Int.le_refl _) h
  have e : cntFrom r 0 = chg r := by
    unfold cntFrom chg
    refine congrArg List.length (List.filter_congr fun i _ => ?_)
    rw [decide_eq_true (by omega : (0 : Int) ≤ (i : Int)), Bool.true_and]
    rfl
  omega
end FF
set_option Elab.async false
set_option linter.all false
set_option maxRecDepth 100000
set_option maxHeartbeats 4000000
/-! the mathematics: the row that is shown has the fewest changes -/
namespace FF
open PySem PySem.Spec PyProof.Rows L2
open PySem.W (dataLt minD)
theorem st_lt_no {x y : St4} (h : y.c ≠ x.c) : dataLt (stD y) (stD x) = decide (y.c < x.c) := by
  unfold stD
  rw [PySem.W.dataLt_tuple, PySem.W.dataLt_all_no (by rfl) (by rw [eqv_int]; exact decide_eq_false h), PySem.W.dataLt_int]
theorem minS_c : ∀ (l : List St4) (a : St4), (minS a l).c ≤ a.c ∧ ∀ s ∈ l, (minS a l).c ≤ s.c
  | [], a => ⟨Int.le_refl _, fun s h => nomatch h⟩
  | b :: l, a => by
    have key : (if dataLt (stD b) (stD a) = true then b else a).c ≤ a.c ∧ (if dataLt (stD b) (stD a) = true then b else a).c ≤ b.c := by
      by_cases e : b.c = a.c
      · split
        · exact ⟨by omega, Int.le_refl _⟩
        · exact ⟨Int.le_refl _, by omega⟩
      · rw [st_lt_no e]
        by_cases c : b.c < a.c
        · rw [decide_eq_true c, if_pos rfl]
          exact ⟨by omega, Int.le_refl _⟩
        · rw [decide_eq_false c, if_neg Bool.false_ne_true]
          exact ⟨Int.le_refl _, by omega⟩
    obtain ⟨h1, h2⟩ := minS_c l (if dataLt (stD b) (stD a) = true then b else a)
    show (minS (if dataLt (stD b) (stD a) = true then b else a) l).c ≤ a.c ∧ ∀ s ∈ b :: l, (minS (if dataLt (stD b) (stD a) = true then b else a) l).c ≤ s.c
    refine ⟨Int.le_trans h1 key.1, fun s hs => ?_⟩
    rcases List.mem_cons.1 hs with rfl | hs
    · exact Int.le_trans h1 key.2
    · exact h2 s hs
theorem chg_snoc (r : List (Option Nat)) (f : Option Nat) : ((chg (r ++ [f]) : Nat) : Int) = (chg r : Nat) + b2n (unlike r f) := by
  rcases List.eq_nil_or_concat r with rfl | ⟨q, l, rfl⟩
  · rfl
  · rw [List.concat_eq_append]
    unfold chg
    have l1 : (q ++ [l] ++ [f]).length - 1 = q.length + 1 := by rw [List.length_append, List.length_append]; rfl
    have l2 : (q ++ [l]).length - 1 = q.length := by rw [List.length_append]; rfl
    rw [l1, l2, List.range_succ, List.filter_append, List.length_append]
    have e1 : (List.range q.length).filter (fun i => !decide ((q ++ [l] ++ [f]).getD i none = (q ++ [l] ++ [f]).getD (i + 1) none)) = (List.range q.length).filter (fun i => !decide ((q ++ [l]).getD i none = (q ++ [l]).getD (i + 1) none)) := by
      refine List.filter_congr fun i hi => ?_
      have := List.mem_range.1 hi
      have g : ∀ j, j < q.length + 1 → (q ++ [l] ++ [f]).getD j none = (q ++ [l]).getD j none := fun j hj => by
        rw [List.getD_eq_getElem?_getD, List.getD_eq_getElem?_getD, List.getElem?_append_left (by rw [List.length_append]; exact hj)]
      rw [g i (by omega), g (i + 1) (by omega)]
    rw [e1]
    have g1 : (q ++ [l] ++ [f]).getD q.length none = l := by
      rw [List.getD_eq_getElem?_getD, List.getElem?_append_left (by rw [List.length_append]; exact Nat.lt_succ_self _), List.getElem?_append_right (Nat.le_refl _), Nat.sub_self]
      rfl
    have g2 : (q ++ [l] ++ [f]).getD (q.length + 1) none = f := by
      rw [List.getD_eq_getElem?_getD, List.getElem?_append_right (by rw [List.length_append]; exact Nat.le_refl _), List.length_append]
      show (([f] : List (Option Nat))[q.length + 1 - (q.length + 1)]?).getD none = f
      rw [Nat.sub_self]
      rfl
    have u : unlike (q ++ [l]) f = !decide (l = f) := by
      unfold unlike
      rw [List.getLast?_concat]
      have : (q ++ [l]).isEmpty = false := by cases q <;> rfl
      rw [this]
      exact congrArg (!·) (decide_eq_decide.2 ⟨fun e => Option.some.inj e, fun e => by rw [e]⟩)
    rw [u, List.filter_cons, g1, g2]
    by_cases c : l = f
    · rw [decide_eq_true c]
      rfl
    · rw [decide_eq_false c]
      rfl
theorem unlike_last {r r' : List (Option Nat)} {f : Option Nat} (h : r.getLast? = r'.getLast?) : unlike r f = unlike r' f := by
  unfold unlike
  have : r.isEmpty = r'.isEmpty := by
    rcases List.eq_nil_or_concat r with rfl | ⟨q, l, rfl⟩
    · rcases List.eq_nil_or_concat r' with rfl | ⟨q', l', rfl⟩
      · rfl
      · rw [List.concat_eq_append, List.getLast?_concat] at h; cases h
    · rcases List.eq_nil_or_concat r' with rfl | ⟨q', l', rfl⟩
      · rw [List.concat_eq_append, List.getLast?_concat] at h; cases h
      · cases q <;> cases q' <;> rfl
  rw [this, h]
/-- the best rows so far -/
structure Best (cs : List (List Nat)) (l : List St4) : Prop where
  ne : l ≠ []
  c : ∀ s ∈ l, s.c = (chg s.row : Nat)
  min : ∀ r, Valid cs r → ∃ s ∈ l, s.row.getLast? = r.getLast? ∧ s.c ≤ (chg r : Nat)
theorem llP_c {ranks : List Int} {l : List St4} {s : St4} (f h : Option Nat) (hs : s ∈ l) : (llP ranks l f h).c ≤ (longerP ranks s f h).c := by
  cases l with
  | nil => cases hs
  | cons a l =>
    obtain ⟨h1, h2⟩ := minS_c (l.map fun s => longerP ranks s f h) (longerP ranks a f h)
    rcases List.mem_cons.1 hs with rfl | hs
    · exact h1
    · exact h2 _ (List.mem_map.2 ⟨s, hs, rfl⟩)
theorem best_step {ranks : List Int} {cs : List (List Nat)} {l : List St4} {c : List Nat} {h : Option Nat} (b : Best cs l) : Best (cs ++ [c]) (stepP ranks l (c, h)) := by
  refine ⟨step_ne _ _ _, fun s hs => ?_, fun r hr => ?_⟩
  · unfold stepP at hs
    obtain ⟨f, hf, rfl⟩ := List.mem_map.1 hs
    obtain ⟨t, ht, e⟩ := llP_mem (ranks := ranks) (f := f) (h := h) b.ne
    show (llP ranks l f h).c = _
    have e' : llP ranks l f h = longerP ranks t f h := e
    rw [e']
    show t.c + b2n (unlike t.row f) = ((chg (t.row ++ [f]) : Nat) : Int)
    rw [chg_snoc, b.c t ht]
  · have hl := hr.1
    rw [List.length_append] at hl
    obtain ⟨r0, f, rfl⟩ : ∃ r0 f, r = r0 ++ [f] := by
      rcases List.eq_nil_or_concat r with rfl | ⟨q, x, rfl⟩
      · cases hl
      · exact ⟨q, x, List.concat_eq_append⟩
    rw [List.length_append] at hl
    have hl0 : r0.length = cs.length := Nat.succ.inj hl
    have v0 : Valid cs r0 := ⟨hl0, fun i c' f' h1 h2 => hr.2 i c' f' (by rw [List.getElem?_append_left (List.getElem?_eq_some_iff.1 h1).1]; exact h1) (by rw [List.getElem?_append_left (List.getElem?_eq_some_iff.1 h2).1]; exact h2)⟩
    have hf : f ∈ tell c := hr.2 cs.length c f (by rw [List.getElem?_append_right (Nat.le_refl _), Nat.sub_self]; rfl) (by rw [List.getElem?_append_right (by omega), hl0, Nat.sub_self]; rfl)
    obtain ⟨s, hs, e1, e2⟩ := b.min r0 v0
    refine ⟨llP ranks l f h, List.mem_map.2 ⟨f, hf, rfl⟩, ?_, ?_⟩
    · obtain ⟨t, ht, e⟩ := llP_mem (ranks := ranks) (f := f) (h := h) b.ne
      rw [e, List.getLast?_concat]
      show (t.row ++ [f]).getLast? = _
      rw [List.getLast?_concat]
    · have h1 := llP_c (ranks := ranks) f h hs
      have h2 : (longerP ranks s f h).c = s.c + b2n (unlike s.row f) := rfl
      rw [chg_snoc, ← unlike_last (f := f) e1]
      omega
theorem fold_best (ranks : List Int) (ps : List (List Nat × Option Nat)) : ∀ (cs0 : List (List Nat)) (l : List St4), Best cs0 l → Best (cs0 ++ ps.map (·.1)) (ps.foldl (stepP ranks) l) := by
  induction ps with
  | nil => intro cs0 l b; rw [List.map_nil, List.append_nil]; exact b
  | cons p ps ih =>
    intro cs0 l b
    have := ih (cs0 ++ [p.1]) (stepP ranks l p) (best_step (h := p.2) b)
    rw [List.append_assoc] at this
    exact this
theorem best0 : Best [] [s0] := ⟨List.cons_ne_nil _ _, fun s hs => by rw [List.mem_singleton.1 hs]; rfl, fun r hr => by
  have : r = [] := List.length_eq_zero_iff.1 hr.1
  subst this
  exact ⟨s0, List.mem_singleton.2 rfl, rfl, Int.le_refl _⟩⟩
/-- of all rows the least one that is reckoned has the fewest changes -/
theorem best_min {ranks : List Int} {ps : List (List Nat × Option Nat)} {r : List (Option Nat)} (hr : Valid (ps.map (·.1)) r) : chg (bestP ranks ps).row ≤ chg r := by
  have b := fold_best ranks ps [] [s0] best0
  rw [List.nil_append] at b
  obtain ⟨s, hs, _, h2⟩ := b.min r hr
  have hm := b.c _ (bestP_mem ranks ps)
  have hle : (bestP ranks ps).c ≤ s.c := by
    have hs' : s ∈ leastP ranks ps := hs
    unfold bestP
    cases e : leastP ranks ps with
    | nil => exact absurd e (least_ne ranks ps)
    | cons a l =>
      rw [e] at hs'
      obtain ⟨m1, m2⟩ := minS_c l a
      rcases List.mem_cons.1 hs' with rfl | hs'
      · exact m1
      · exact m2 s hs'
  omega
theorem shown_min {fs : List Face} {t : List Int} {r : List (Option Nat)} (hr : Valid (chosen fs t) r) : chg (shownP fs t) ≤ chg r := by
  unfold shownP
  refine best_min ?_
  rw [List.map_fst_zip (by rw [List.length_replicate]; exact Nat.le_refl _)]
  exact hr
end FF
set_option Elab.async false
set_option linter.all false
set_option maxRecDepth 100000
set_option maxHeartbeats 4000000
/-! the mathematics: of the rows with the fewest changes the one that moves the fewest, of these the one with the least ranks -/
namespace FF
open PySem PySem.Spec PyProof.Rows L2
open PySem.W (dataLt minD)
/-- in order: changes, moved clusters, ranks -/
def le3 (c m k c' m' k' : Int) : Prop := c < c' ∨ (c = c' ∧ (m < m' ∨ (m = m' ∧ k ≤ k')))
theorem st_lt_m {x y : St4} (h : y.c = x.c) (h2 : y.m ≠ x.m) : dataLt (stD y) (stD x) = decide (y.m < x.m) := by
  unfold stD
  rw [PySem.W.dataLt_tuple, PySem.W.dataLt_all_yes (by rfl) (by rw [eqv_int]; exact decide_eq_true h), PySem.W.dataLt_all_no (by rfl) (by rw [eqv_int]; exact decide_eq_false h2), PySem.W.dataLt_int]
theorem st_lt_k {x y : St4} (h : y.c = x.c) (h2 : y.m = x.m) (h3 : y.k ≠ x.k) : dataLt (stD y) (stD x) = decide (y.k < x.k) := by
  unfold stD
  rw [PySem.W.dataLt_tuple, PySem.W.dataLt_all_yes (by rfl) (by rw [eqv_int]; exact decide_eq_true h), PySem.W.dataLt_all_yes (by rfl) (by rw [eqv_int]; exact decide_eq_true h2), PySem.W.dataLt_all_no (by rfl) (by rw [eqv_int]; exact decide_eq_false h3), PySem.W.dataLt_int]
def leS (s t : St4) : Prop := le3 s.c s.m s.k t.c t.m t.k
theorem leS_refl (s : St4) : leS s s := by unfold leS le3; omega
theorem leS_trans {a b c : St4} (h : leS a b) (h2 : leS b c) : leS a c := by unfold leS le3 at *; omega
theorem pick_le (a b : St4) : leS (if dataLt (stD b) (stD a) = true then b else a) a ∧ leS (if dataLt (stD b) (stD a) = true then b else a) b := by
  by_cases e : b.c = a.c
  · by_cases e2 : b.m = a.m
    · by_cases e3 : b.k = a.k
      · split <;> (unfold leS le3; omega)
      · rw [st_lt_k e e2 e3]
        by_cases c : b.k < a.k
        · rw [decide_eq_true c, if_pos rfl]; unfold leS le3; omega
        · rw [decide_eq_false c, if_neg Bool.false_ne_true]; unfold leS le3; omega
    · rw [st_lt_m e e2]
      by_cases c : b.m < a.m
      · rw [decide_eq_true c, if_pos rfl]; unfold leS le3; omega
      · rw [decide_eq_false c, if_neg Bool.false_ne_true]; unfold leS le3; omega
  · rw [st_lt_no e]
    by_cases c : b.c < a.c
    · rw [decide_eq_true c, if_pos rfl]; unfold leS le3; omega
    · rw [decide_eq_false c, if_neg Bool.false_ne_true]; unfold leS le3; omega
theorem minS_le : ∀ (l : List St4) (a : St4), leS (minS a l) a ∧ ∀ s ∈ l, leS (minS a l) s
  | [], a => ⟨leS_refl _, fun s h => nomatch h⟩
  | b :: l, a => by
    have key := pick_le a b
    obtain ⟨h1, h2⟩ := minS_le l (if dataLt (stD b) (stD a) = true then b else a)
    show leS (minS (if dataLt (stD b) (stD a) = true then b else a) l) a ∧ ∀ s ∈ b :: l, leS (minS (if dataLt (stD b) (stD a) = true then b else a) l) s
    refine ⟨leS_trans h1 key.1, fun s hs => ?_⟩
    rcases List.mem_cons.1 hs with rfl | hs
    · exact leS_trans h1 key.2
    · exact h2 s hs
def rkOf (ranks : List Int) : Option Nat → Int
  | some n => ranks.getD n 0
  | none => 0
/-- the row's moved clusters and its ranks -/
def rowM : List (Option Nat) → List (Option Nat) → Int
  | f :: r, h :: had => b2n (f.isSome && wants f h) + rowM r had
  | _, _ => 0
def rowK (ranks : List Int) (r : List (Option Nat)) : Int := (r.map (rkOf ranks)).foldl (· + ·) 0
theorem rowM_snoc (f h : Option Nat) : ∀ (r had : List (Option Nat)), r.length = had.length → rowM (r ++ [f]) (had ++ [h]) = rowM r had + b2n (f.isSome && wants f h)
  | [], [], _ => by show b2n _ + 0 = 0 + b2n _; omega
  | [], _ :: _, e => by cases e
  | _ :: _, [], e => by cases e
  | a :: r, b :: had, e => by
    have ih := rowM_snoc f h r had (Nat.succ.inj e)
    show b2n (a.isSome && wants a b) + rowM (r ++ [f]) (had ++ [h]) = b2n (a.isSome && wants a b) + rowM r had + b2n (f.isSome && wants f h)
    rw [ih]
    omega
theorem rowK_snoc (ranks : List Int) (r : List (Option Nat)) (f : Option Nat) : rowK ranks (r ++ [f]) = rowK ranks r + rkOf ranks f := by
  unfold rowK
  rw [List.map_append, List.foldl_append]
  rfl
structure Best3 (ranks : List Int) (cs : List (List Nat)) (had : List (Option Nat)) (l : List St4) : Prop where
  ne : l ≠ []
  ln : had.length = cs.length
  c : ∀ s ∈ l, s.row.length = cs.length ∧ s.c = (chg s.row : Nat) ∧ s.m = rowM s.row had ∧ s.k = rowK ranks s.row
  min : ∀ r, Valid cs r → ∃ s ∈ l, s.row.getLast? = r.getLast? ∧ le3 s.c s.m s.k (chg r : Nat) (rowM r had) (rowK ranks r)
theorem llP_le {ranks : List Int} {l : List St4} {s : St4} (f h : Option Nat) (hs : s ∈ l) : leS (llP ranks l f h) (longerP ranks s f h) := by
  cases l with
  | nil => cases hs
  | cons a l =>
    obtain ⟨h1, h2⟩ := minS_le (l.map fun s => longerP ranks s f h) (longerP ranks a f h)
    rcases List.mem_cons.1 hs with rfl | hs
    · exact h1
    · exact h2 _ (List.mem_map.2 ⟨s, hs, rfl⟩)
theorem longer_k (ranks : List Int) (s : St4) (f h : Option Nat) : (longerP ranks s f h).k = s.k + rkOf ranks f := by cases f <;> rfl
theorem best3_step {ranks : List Int} {cs : List (List Nat)} {had : List (Option Nat)} {l : List St4} {c : List Nat} {h : Option Nat} (b : Best3 ranks cs had l) : Best3 ranks (cs ++ [c]) (had ++ [h]) (stepP ranks l (c, h)) := by
  refine ⟨step_ne _ _ _, by rw [List.length_append, List.length_append, b.ln]; rfl, fun s hs => ?_, fun r hr => ?_⟩
  · unfold stepP at hs
    obtain ⟨f, hf, rfl⟩ := List.mem_map.1 hs
    obtain ⟨t, ht, e⟩ := llP_mem (ranks := ranks) (f := f) (h := h) b.ne
    show (llP ranks l f h).row.length = _ ∧ (llP ranks l f h).c = _ ∧ (llP ranks l f h).m = _ ∧ (llP ranks l f h).k = _
    obtain ⟨c0, c1, c2, c3⟩ := b.c t ht
    have e' : llP ranks l f h = longerP ranks t f h := e
    rw [e']
    refine ⟨?_, ?_, ?_, ?_⟩
    · show (t.row ++ [f]).length = _
      rw [List.length_append, List.length_append, c0]; rfl
    · show t.c + b2n (unlike t.row f) = ((chg (t.row ++ [f]) : Nat) : Int)
      rw [chg_snoc, c1]
    · show t.m + b2n (f.isSome && wants f h) = rowM (t.row ++ [f]) (had ++ [h])
      rw [rowM_snoc f h _ _ (by rw [c0, b.ln]), c2]
    · rw [longer_k, c3]
      show _ = rowK ranks (t.row ++ [f])
      rw [rowK_snoc]
  · have hl := hr.1
    rw [List.length_append] at hl
    obtain ⟨r0, f, rfl⟩ : ∃ r0 f, r = r0 ++ [f] := by
      rcases List.eq_nil_or_concat r with rfl | ⟨q, x, rfl⟩
      · cases hl
      · exact ⟨q, x, List.concat_eq_append⟩
    rw [List.length_append] at hl
    have hl0 : r0.length = cs.length := Nat.succ.inj hl
    have v0 : Valid cs r0 := ⟨hl0, fun i c' f' h1 h2 => hr.2 i c' f' (by rw [List.getElem?_append_left (List.getElem?_eq_some_iff.1 h1).1]; exact h1) (by rw [List.getElem?_append_left (List.getElem?_eq_some_iff.1 h2).1]; exact h2)⟩
    have hf : f ∈ tell c := hr.2 cs.length c f (by rw [List.getElem?_append_right (Nat.le_refl _), Nat.sub_self]; rfl) (by rw [List.getElem?_append_right (by omega), hl0, Nat.sub_self]; rfl)
    obtain ⟨s, hs, e1, e2⟩ := b.min r0 v0
    refine ⟨llP ranks l f h, List.mem_map.2 ⟨f, hf, rfl⟩, ?_, ?_⟩
    · obtain ⟨t, ht, e⟩ := llP_mem (ranks := ranks) (f := f) (h := h) b.ne
      rw [e, List.getLast?_concat]
      show (t.row ++ [f]).getLast? = _
      rw [List.getLast?_concat]
    · have h1 := llP_le (ranks := ranks) f h hs
      have h2 : (longerP ranks s f h).c = s.c + b2n (unlike s.row f) := rfl
      have h3 : (longerP ranks s f h).m = s.m + b2n (f.isSome && wants f h) := rfl
      have h4 := longer_k ranks s f h
      rw [chg_snoc, ← unlike_last (f := f) e1, rowM_snoc f h _ _ (by rw [hl0, b.ln]), rowK_snoc]
      unfold leS le3 at *
      omega
theorem fold_best3 (ranks : List Int) (ps : List (List Nat × Option Nat)) : ∀ (cs0 : List (List Nat)) (had0 : List (Option Nat)) (l : List St4), Best3 ranks cs0 had0 l → Best3 ranks (cs0 ++ ps.map (·.1)) (had0 ++ ps.map (·.2)) (ps.foldl (stepP ranks) l) := by
  induction ps with
  | nil => intro cs0 had0 l b; rw [List.map_nil, List.append_nil, List.map_nil, List.append_nil]; exact b
  | cons p ps ih =>
    intro cs0 had0 l b
    have := ih (cs0 ++ [p.1]) (had0 ++ [p.2]) (stepP ranks l p) (best3_step (h := p.2) b)
    rw [List.append_assoc, List.append_assoc] at this
    exact this
theorem best3_0 (ranks : List Int) : Best3 ranks [] [] [s0] := ⟨List.cons_ne_nil _ _, rfl, fun s hs => by rw [List.mem_singleton.1 hs]; exact ⟨rfl, rfl, rfl, rfl⟩, fun r hr => by
  have : r = [] := List.length_eq_zero_iff.1 hr.1
  subst this
  refine ⟨s0, List.mem_singleton.2 rfl, rfl, ?_⟩
  exact .inr ⟨rfl, .inr ⟨rfl, Int.le_refl _⟩⟩⟩
/-- the best row's costs, and that no row's are less -/
theorem best3_min (ranks : List Int) (ps : List (List Nat × Option Nat)) : (bestP ranks ps).c = (chg (bestP ranks ps).row : Nat) ∧ (bestP ranks ps).m = rowM (bestP ranks ps).row (ps.map (·.2)) ∧ (bestP ranks ps).k = rowK ranks (bestP ranks ps).row ∧
    ∀ r, Valid (ps.map (·.1)) r → le3 (bestP ranks ps).c (bestP ranks ps).m (bestP ranks ps).k (chg r : Nat) (rowM r (ps.map (·.2))) (rowK ranks r) := by
  have b := fold_best3 ranks ps [] [] [s0] (best3_0 ranks)
  rw [List.nil_append, List.nil_append] at b
  obtain ⟨_, c1, c2, c3⟩ := b.c _ (bestP_mem ranks ps)
  refine ⟨c1, c2, c3, fun r hr => ?_⟩
  obtain ⟨s, hs, _, h2⟩ := b.min r hr
  have hle : leS (bestP ranks ps) s := by
    have hs' : s ∈ leastP ranks ps := hs
    unfold bestP
    cases e : leastP ranks ps with
    | nil => exact absurd e (least_ne ranks ps)
    | cons a l =>
      rw [e] at hs'
      obtain ⟨m1, m2⟩ := minS_le l a
      rcases List.mem_cons.1 hs' with rfl | hs'
      · exact m1
      · exact m2 s hs'
  unfold leS le3 at *
  omega
end FF
set_option Elab.async false
set_option linter.all false
set_option maxRecDepth 100000
set_option maxHeartbeats 4000000
/-! the mathematics: of several the first -/
namespace FF
open PySem PySem.Spec PyProof.Rows L2
open PySem.W (dataLt minD)
def optLt : Option Nat → Option Nat → Bool
  | some a, some b => decide (a < b)
  | _, _ => false
def rowLt : List (Option Nat) → List (Option Nat) → Bool
  | a :: r, b :: s => if a = b then rowLt r s else optLt a b
  | _, _ => false
theorem dataLt_rows : ∀ {r s : List (Option Nat)}, r.map Option.isNone = s.map Option.isNone → dataLt (rowD r) (rowD s) = rowLt r s
  | [], [], _ => by unfold rowD; rw [PySem.W.dataLt_list]; decide +kernel
  | [], _ :: _, h => by cases h
  | _ :: _, [], h => by cases h
  | a :: r, b :: s, h => by
    rw [List.map_cons, List.map_cons, List.cons.injEq] at h
    have ih := dataLt_rows h.2
    unfold rowD at ih
    rw [PySem.W.dataLt_list] at ih
    have al : PySem.W.alike (oD a) (oD b) = true := by
      cases a <;> cases b
      · rfl
      · cases h.1
      · cases h.1
      · rfl
    unfold rowD
    rw [PySem.W.dataLt_list, List.map_cons, List.map_cons]
    by_cases c : a = b
    · rw [PySem.W.dataLt_all_yes al (by rw [eqv_oD]; exact decide_eq_true c), ih]
      show _ = if a = b then rowLt r s else optLt a b
      rw [if_pos c]
    · rw [PySem.W.dataLt_all_no al (by rw [eqv_oD]; exact decide_eq_false c)]
      show _ = if a = b then rowLt r s else optLt a b
      rw [if_neg c]
      cases a with
      | none => cases b with
        | none => exact absurd rfl c
        | some n => cases h.1
      | some m => cases b with
        | none => cases h.1
        | some n =>
          show dataLt (.int (m : Int)) (.int (n : Int)) = decide (m < n)
          rw [PySem.W.dataLt_int]
          exact decide_eq_decide.2 ⟨fun h => by omega, fun h => by omega⟩
def rowLe (r s : List (Option Nat)) : Prop := r = s ∨ rowLt r s = true
theorem rowLt_trans : ∀ {r s t : List (Option Nat)}, rowLt r s = true → rowLt s t = true → rowLt r t = true
  | [], _, _, h, _ => by cases h
  | _ :: _, [], _, h, _ => by cases h
  | _ :: _, _ :: _, [], _, h => by cases h
  | a :: r, b :: s, c :: t, h1, h2 => by
    unfold rowLt at h1 h2 ⊢
    by_cases ab : a = b
    · subst ab
      rw [if_pos rfl] at h1
      by_cases ac : a = c
      · subst ac
        rw [if_pos rfl] at h2 ⊢
        exact rowLt_trans h1 h2
      · rw [if_neg ac] at h2 ⊢
        exact h2
    · rw [if_neg ab] at h1
      by_cases bc : b = c
      · subst bc
        rw [if_neg ab]
        exact h1
      · rw [if_neg bc] at h2
        cases a with
        | none => cases h1
        | some x => cases b with
          | none => cases h1
          | some y => cases c with
            | none => cases h2
            | some z =>
              have p := of_decide_eq_true h1
              have q := of_decide_eq_true h2
              rw [if_neg fun e => by cases e; omega]
              exact decide_eq_true (by omega)
theorem rowLe_trans {r s t : List (Option Nat)} (h : rowLe r s) (h2 : rowLe s t) : rowLe r t := by
  rcases h with rfl | h
  · exact h2
  · rcases h2 with rfl | h2
    · exact .inr h
    · exact .inr (rowLt_trans h h2)
theorem rowLt_total : ∀ {r s : List (Option Nat)}, r.map Option.isNone = s.map Option.isNone → r = s ∨ rowLt r s = true ∨ rowLt s r = true
  | [], [], _ => .inl rfl
  | [], _ :: _, h => by cases h
  | _ :: _, [], h => by cases h
  | a :: r, b :: s, h => by
    rw [List.map_cons, List.map_cons, List.cons.injEq] at h
    by_cases c : a = b
    · subst c
      unfold rowLt
      rw [if_pos rfl, if_pos rfl]
      rcases rowLt_total h.2 with e | e | e
      · exact .inl (by rw [e])
      · exact .inr (.inl e)
      · exact .inr (.inr e)
    · unfold rowLt
      rw [if_neg c, if_neg fun e => c e.symm]
      cases a with
      | none => cases b with
        | none => exact absurd rfl c
        | some n => cases h.1
      | some m => cases b with
        | none => cases h.1
        | some n =>
          have : m ≠ n := fun e => c (by rw [e])
          by_cases q : m < n
          · exact .inr (.inl (decide_eq_true q))
          · exact .inr (.inr (decide_eq_true (by omega)))
theorem rowLt_snoc (f : Option Nat) : ∀ {r s : List (Option Nat)}, rowLt r s = true → rowLt (r ++ [f]) (s ++ [f]) = true
  | [], _, h => by cases h
  | _ :: _, [], h => by cases h
  | a :: r, b :: s, h => by
    rw [List.cons_append, List.cons_append]
    unfold rowLt at h ⊢
    by_cases c : a = b
    · rw [if_pos c] at h ⊢
      exact rowLt_snoc f h
    · rw [if_neg c] at h ⊢
      exact h
theorem rowLe_snoc (f : Option Nat) {r s : List (Option Nat)} (h : rowLe r s) : rowLe (r ++ [f]) (s ++ [f]) := h.elim (fun e => .inl (by rw [e])) fun h => .inr (rowLt_snoc f h)
/-- changes, moved, ranks, and of several the first -/
def le4 (s t : St4) : Prop := s.c < t.c ∨ (s.c = t.c ∧ (s.m < t.m ∨ (s.m = t.m ∧ (s.k < t.k ∨ (s.k = t.k ∧ rowLe s.row t.row)))))
theorem le4_refl (s : St4) : le4 s s := .inr ⟨rfl, .inr ⟨rfl, .inr ⟨rfl, .inl rfl⟩⟩⟩
theorem le4_trans {a b c : St4} (h : le4 a b) (h2 : le4 b c) : le4 a c := by
  unfold le4 at *
  rcases h with h | ⟨e1, h | ⟨e2, h | ⟨e3, h⟩⟩⟩
  · rcases h2 with h2 | ⟨f1, _⟩ <;> exact .inl (by omega)
  · rcases h2 with h2 | ⟨f1, h2 | ⟨f2, _⟩⟩
    · exact .inl (by omega)
    · exact .inr ⟨by omega, .inl (by omega)⟩
    · exact .inr ⟨by omega, .inl (by omega)⟩
  · rcases h2 with h2 | ⟨f1, h2 | ⟨f2, h2 | ⟨f3, _⟩⟩⟩
    · exact .inl (by omega)
    · exact .inr ⟨by omega, .inl (by omega)⟩
    · exact .inr ⟨by omega, .inr ⟨by omega, .inl (by omega)⟩⟩
    · exact .inr ⟨by omega, .inr ⟨by omega, .inl (by omega)⟩⟩
  · rcases h2 with h2 | ⟨f1, h2 | ⟨f2, h2 | ⟨f3, h2⟩⟩⟩
    · exact .inl (by omega)
    · exact .inr ⟨by omega, .inl (by omega)⟩
    · exact .inr ⟨by omega, .inr ⟨by omega, .inl (by omega)⟩⟩
    · exact .inr ⟨by omega, .inr ⟨by omega, .inr ⟨by omega, rowLe_trans h h2⟩⟩⟩
theorem st_lt_row {x y : St4} (h : y.c = x.c) (h2 : y.m = x.m) (h3 : y.k = x.k) (hp : pat y = pat x) : dataLt (stD y) (stD x) = rowLt y.row x.row := by
  have e := dataLt_rows (r := y.row) (s := x.row) hp
  by_cases c : y.row = x.row
  · have : stD y = stD x := by unfold stD; rw [h, h2, h3, c]
    rw [this]
    rw [c] at e ⊢
    have ir : ∀ r : List (Option Nat), rowLt r r = false := fun r => by
      induction r with
      | nil => rfl
      | cons a r ih => unfold rowLt; rw [if_pos rfl]; exact ih
    rw [ir]
    have : ∀ l : List (Int ⊕ List Nat), PyProof.Rows.lexLt itemOrd l l = false := fun l => by
      induction l with
      | nil => rfl
      | cons a l ih => rw [lex_self (O := itemOrd)]; exact ih
    exact this _
  · unfold stD
    have ne : PyData.eqv (rowD y.row) (rowD x.row) = false := by
      refine Bool.eq_false_iff.2 fun z => c ?_
      have all_ : ∀ (r s : List (Option Nat)), PyData.eqvAll (r.map oD) (s.map oD) = true → r = s := fun r => by
        induction r with
        | nil => intro s h; cases s with
          | nil => rfl
          | cons b s => unfold PyData.eqvAll at h; cases h
        | cons a r ih => intro s h; cases s with
          | nil => unfold PyData.eqvAll at h; cases h
          | cons b s =>
            rw [List.map_cons, List.map_cons, PyData.eqvAll, Bool.and_eq_true, eqv_oD, decide_eq_true_iff] at h
            rw [h.1, ih s h.2]
      unfold rowD at z
      rw [PyData.eqv] at z
      exact all_ _ _ z
    rw [PySem.W.dataLt_tuple, PySem.W.dataLt_all_yes (by rfl) (by rw [eqv_int]; exact decide_eq_true h), PySem.W.dataLt_all_yes (by rfl) (by rw [eqv_int]; exact decide_eq_true h2), PySem.W.dataLt_all_yes (by rfl) (by rw [eqv_int]; exact decide_eq_true h3), PySem.W.dataLt_all_no (x := rowD y.row) (y := rowD x.row) (by unfold rowD; rw [PySem.W.alike]; exact alike_opts hp) ne, e]
theorem pick_le4 {a b : St4} (hp : pat a = pat b) : le4 (if dataLt (stD b) (stD a) = true then b else a) a ∧ le4 (if dataLt (stD b) (stD a) = true then b else a) b := by
  by_cases e : b.c = a.c
  · by_cases e2 : b.m = a.m
    · by_cases e3 : b.k = a.k
      · rw [st_lt_row e e2 e3 hp.symm]
        by_cases c : rowLt b.row a.row = true
        · rw [if_pos c]
          exact ⟨.inr ⟨e, .inr ⟨e2, .inr ⟨e3, .inr c⟩⟩⟩, le4_refl b⟩
        · rw [if_neg c]
          refine ⟨le4_refl a, .inr ⟨e.symm, .inr ⟨e2.symm, .inr ⟨e3.symm, ?_⟩⟩⟩⟩
          rcases rowLt_total (r := a.row) (s := b.row) hp with q | q | q
          · exact .inl q
          · exact .inr q
          · exact absurd q c
      · rw [st_lt_k e e2 e3]
        by_cases c : b.k < a.k
        · rw [decide_eq_true c, if_pos rfl]
          exact ⟨.inr ⟨e, .inr ⟨e2, .inl c⟩⟩, le4_refl b⟩
        · rw [decide_eq_false c, if_neg Bool.false_ne_true]
          exact ⟨le4_refl a, .inr ⟨e.symm, .inr ⟨e2.symm, .inl (by omega)⟩⟩⟩
    · rw [st_lt_m e e2]
      by_cases c : b.m < a.m
      · rw [decide_eq_true c, if_pos rfl]
        exact ⟨.inr ⟨e, .inl c⟩, le4_refl b⟩
      · rw [decide_eq_false c, if_neg Bool.false_ne_true]
        exact ⟨le4_refl a, .inr ⟨e.symm, .inl (by omega)⟩⟩
  · rw [st_lt_no e]
    by_cases c : b.c < a.c
    · rw [decide_eq_true c, if_pos rfl]
      exact ⟨.inl c, le4_refl b⟩
    · rw [decide_eq_false c, if_neg Bool.false_ne_true]
      exact ⟨le4_refl a, .inl (by omega)⟩
theorem minS_le4 : ∀ (l : List St4) (a : St4), (∀ s ∈ l, pat s = pat a) → le4 (minS a l) a ∧ ∀ s ∈ l, le4 (minS a l) s
  | [], a, _ => ⟨le4_refl _, fun s h => nomatch h⟩
  | b :: l, a, hp => by
    have hb := hp b (List.mem_cons_self ..)
    have key := pick_le4 hb.symm
    have hp2 : pat (if dataLt (stD b) (stD a) = true then b else a) = pat a := by split; exact hb; rfl
    obtain ⟨h1, h2⟩ := minS_le4 l (if dataLt (stD b) (stD a) = true then b else a) fun s hs => by rw [hp2]; exact hp s (List.mem_cons_of_mem _ hs)
    show le4 (minS (if dataLt (stD b) (stD a) = true then b else a) l) a ∧ ∀ s ∈ b :: l, le4 (minS (if dataLt (stD b) (stD a) = true then b else a) l) s
    refine ⟨le4_trans h1 key.1, fun s hs => ?_⟩
    rcases List.mem_cons.1 hs with rfl | hs
    · exact le4_trans h1 key.2
    · exact h2 s hs
end FF
set_option Elab.async false
set_option linter.all false
set_option maxRecDepth 100000
set_option maxHeartbeats 4000000
/-! the mathematics: the row that is reckoned is the one that the document asks for -/
namespace FF
open PySem PySem.Spec PyProof.Rows L2
/-- a row with its costs -/
def costed (ranks : List Int) (had r : List (Option Nat)) : St4 := ⟨(chg r : Nat), rowM r had, rowK ranks r, r⟩
theorem costed_snoc {ranks : List Int} {had r : List (Option Nat)} (f h : Option Nat) (hl : r.length = had.length) : costed ranks (had ++ [h]) (r ++ [f]) = longerP ranks (costed ranks had r) f h := by
  unfold costed
  have e1 := chg_snoc r f
  have e2 := rowM_snoc f h r had hl
  have e3 := rowK_snoc ranks r f
  have e4 : longerP ranks ⟨(chg r : Nat), rowM r had, rowK ranks r, r⟩ f h = ⟨((chg r : Nat) : Int) + b2n (unlike r f), rowM r had + b2n (f.isSome && wants f h), rowK ranks r + rkOf ranks f, r ++ [f]⟩ := by cases f <;> rfl
  rw [e4, e1, e2, e3]
theorem le4_longer {ranks : List Int} {s t : St4} (f h : Option Nat) (hle : le4 s t) (hlast : s.row.getLast? = t.row.getLast?) : le4 (longerP ranks s f h) (longerP ranks t f h) := by
  have u := unlike_last (f := f) hlast
  have c1 : (longerP ranks s f h).c = s.c + b2n (unlike s.row f) := rfl
  have c2 : (longerP ranks t f h).c = t.c + b2n (unlike s.row f) := by rw [u]; rfl
  have m1 : (longerP ranks s f h).m = s.m + b2n (f.isSome && wants f h) := rfl
  have m2 : (longerP ranks t f h).m = t.m + b2n (f.isSome && wants f h) := rfl
  have k1 := longer_k ranks s f h
  have k2 := longer_k ranks t f h
  have r1 : (longerP ranks s f h).row = s.row ++ [f] := rfl
  have r2 : (longerP ranks t f h).row = t.row ++ [f] := rfl
  unfold le4 at *
  rw [r1, r2]
  rcases hle with q | ⟨e1, q | ⟨e2, q | ⟨e3, q⟩⟩⟩
  · exact .inl (by omega)
  · exact .inr ⟨by omega, .inl (by omega)⟩
  · exact .inr ⟨by omega, .inr ⟨by omega, .inl (by omega)⟩⟩
  · exact .inr ⟨by omega, .inr ⟨by omega, .inr ⟨by omega, rowLe_snoc f q⟩⟩⟩
structure Best4 (ranks : List Int) (cs : List (List Nat)) (had : List (Option Nat)) (l : List St4) : Prop where
  ne : l ≠ []
  ln : had.length = cs.length
  pt : ∀ s ∈ l, pat s = cs.map List.isEmpty
  c : ∀ s ∈ l, s = costed ranks had s.row ∧ s.row.length = cs.length
  min : ∀ r, Valid cs r → ∃ s ∈ l, s.row.getLast? = r.getLast? ∧ le4 s (costed ranks had r)
theorem llP_le4 {ranks : List Int} {l : List St4} {s : St4} (f h : Option Nat) (hs : s ∈ l) (hp : ∀ a ∈ l, ∀ b ∈ l, pat a = pat b) : le4 (llP ranks l f h) (longerP ranks s f h) := by
  have pl : ∀ a : St4, pat (longerP ranks a f h) = pat a ++ [f.isNone] := fun a => by
    unfold pat longerP
    rw [List.map_append]
    rfl
  cases l with
  | nil => cases hs
  | cons a l =>
    obtain ⟨h1, h2⟩ := minS_le4 (l.map fun s => longerP ranks s f h) (longerP ranks a f h) fun t ht => by
      obtain ⟨b, hb, rfl⟩ := List.mem_map.1 ht
      rw [pl, pl, hp b (List.mem_cons_of_mem _ hb) a (List.mem_cons_self ..)]
    rcases List.mem_cons.1 hs with rfl | hs
    · exact h1
    · exact h2 _ (List.mem_map.2 ⟨s, hs, rfl⟩)
theorem best4_step {ranks : List Int} {cs : List (List Nat)} {had : List (Option Nat)} {l : List St4} {c : List Nat} {h : Option Nat} (b : Best4 ranks cs had l) : Best4 ranks (cs ++ [c]) (had ++ [h]) (stepP ranks l (c, h)) := by
  have hp : ∀ a ∈ l, ∀ d ∈ l, pat a = pat d := fun a ha d hd => (b.pt a ha).trans (b.pt d hd).symm
  refine ⟨step_ne _ _ _, by rw [List.length_append, List.length_append, b.ln]; rfl, fun s hs => ?_, fun s hs => ?_, fun r hr => ?_⟩
  · unfold stepP at hs
    obtain ⟨f, hf, rfl⟩ := List.mem_map.1 hs
    obtain ⟨t, ht, e⟩ := llP_mem (ranks := ranks) (f := f) (h := h) b.ne
    have e' : llP ranks l f h = longerP ranks t f h := e
    show pat (llP ranks l f h) = _
    rw [e']
    unfold pat longerP
    rw [List.map_append, List.map_append]
    show pat t ++ [f.isNone] = _
    rw [b.pt t ht, tell_none hf]
    rfl
  · unfold stepP at hs
    obtain ⟨f, hf, rfl⟩ := List.mem_map.1 hs
    obtain ⟨t, ht, e⟩ := llP_mem (ranks := ranks) (f := f) (h := h) b.ne
    have e' : llP ranks l f h = longerP ranks t f h := e
    obtain ⟨c1, c2⟩ := b.c t ht
    show llP ranks l f h = costed ranks (had ++ [h]) (llP ranks l f h).row ∧ _
    rw [e']
    have er : (longerP ranks t f h).row = t.row ++ [f] := rfl
    refine ⟨?_, ?_⟩
    · rw [er, costed_snoc f h (by rw [c2, b.ln]), ← c1]
    · show (t.row ++ [f]).length = _
      rw [List.length_append, List.length_append, c2]
      rfl
  · have hl := hr.1
    rw [List.length_append] at hl
    obtain ⟨r0, f, rfl⟩ : ∃ r0 f, r = r0 ++ [f] := by
      rcases List.eq_nil_or_concat r with rfl | ⟨q, x, rfl⟩
      · cases hl
      · exact ⟨q, x, List.concat_eq_append⟩
    rw [List.length_append] at hl
    have hl0 : r0.length = cs.length := Nat.succ.inj hl
    have v0 : Valid cs r0 := ⟨hl0, fun i c' f' h1 h2 => hr.2 i c' f' (by rw [List.getElem?_append_left (List.getElem?_eq_some_iff.1 h1).1]; exact h1) (by rw [List.getElem?_append_left (List.getElem?_eq_some_iff.1 h2).1]; exact h2)⟩
    have hf : f ∈ tell c := hr.2 cs.length c f (by rw [List.getElem?_append_right (Nat.le_refl _), Nat.sub_self]; rfl) (by rw [List.getElem?_append_right (by omega), hl0, Nat.sub_self]; rfl)
    obtain ⟨s, hs, e1, e2⟩ := b.min r0 v0
    refine ⟨llP ranks l f h, List.mem_map.2 ⟨f, hf, rfl⟩, ?_, ?_⟩
    · obtain ⟨t, ht, e⟩ := llP_mem (ranks := ranks) (f := f) (h := h) b.ne
      rw [e, List.getLast?_concat]
      show (t.row ++ [f]).getLast? = _
      rw [List.getLast?_concat]
    · rw [costed_snoc f h (by rw [hl0, b.ln])]
      exact le4_trans (llP_le4 f h hs hp) (le4_longer f h e2 e1)
theorem fold_best4 (ranks : List Int) (ps : List (List Nat × Option Nat)) : ∀ (cs0 : List (List Nat)) (had0 : List (Option Nat)) (l : List St4), Best4 ranks cs0 had0 l → Best4 ranks (cs0 ++ ps.map (·.1)) (had0 ++ ps.map (·.2)) (ps.foldl (stepP ranks) l) := by
  induction ps with
  | nil => intro cs0 had0 l b; rw [List.map_nil, List.append_nil, List.map_nil, List.append_nil]; exact b
  | cons p ps ih =>
    intro cs0 had0 l b
    have := ih (cs0 ++ [p.1]) (had0 ++ [p.2]) (stepP ranks l p) (best4_step (h := p.2) b)
    rw [List.append_assoc, List.append_assoc] at this
    exact this
theorem best4_0 (ranks : List Int) : Best4 ranks [] [] [s0] := ⟨List.cons_ne_nil _ _, rfl, fun s hs => by rw [List.mem_singleton.1 hs]; rfl, fun s hs => by rw [List.mem_singleton.1 hs]; exact ⟨rfl, rfl⟩, fun r hr => by
  have : r = [] := List.length_eq_zero_iff.1 hr.1
  subst this
  exact ⟨s0, List.mem_singleton.2 rfl, rfl, le4_refl _⟩⟩
/-- the best row is the least of all that may be, and the only one that is -/
theorem best4_min (ranks : List Int) (ps : List (List Nat × Option Nat)) : bestP ranks ps = costed ranks (ps.map (·.2)) (bestP ranks ps).row ∧ ∀ r, Valid (ps.map (·.1)) r → le4 (bestP ranks ps) (costed ranks (ps.map (·.2)) r) := by
  have b := fold_best4 ranks ps [] [] [s0] (best4_0 ranks)
  rw [List.nil_append, List.nil_append] at b
  refine ⟨(b.c _ (bestP_mem ranks ps)).1, fun r hr => ?_⟩
  obtain ⟨s, hs, _, h2⟩ := b.min r hr
  refine le4_trans ?_ h2
  have hs' : s ∈ leastP ranks ps := hs
  have pt : ∀ s ∈ leastP ranks ps, pat s = (ps.map (·.1)).map List.isEmpty := b.pt
  unfold bestP
  cases e : leastP ranks ps with
  | nil => exact absurd e (least_ne ranks ps)
  | cons a l =>
    rw [e] at hs' pt
    obtain ⟨m1, m2⟩ := minS_le4 l a fun s hs => (pt s (List.mem_cons_of_mem _ hs)).trans (pt a (List.mem_cons_self ..)).symm
    rcases List.mem_cons.1 hs' with rfl | hs'
    · exact m1
    · exact m2 s hs'
end FF
set_option Elab.async false
set_option linter.all false
set_option maxRecDepth 100000
set_option maxHeartbeats 4000000
/-! the mathematics: the torn stretches that are found one behind another are as many as the changes -/
namespace FF
open PySem PySem.Spec PyProof.Rows L2
def slc (cs : List (List Nat)) (f k : Nat) : List (List Nat) := (cs.drop f).take (k - f)
theorem slc_cut {cs : List (List Nat)} {f l : Nat} : cutC cs (f : Nat) (l : Nat) = slc cs f (l + 1) := by
  unfold cutC slc
  rw [Int.toNat_natCast, Int.toNat_natCast]
/-- what is not torn can be told alike -/
theorem whole {S : List (List Nat)} (h : tornP S = false) : ∃ x, ∀ c ∈ S, x ∈ tell c := by
  unfold tornP at h
  by_cases c1 : S.any (fun fs => !fs.isEmpty) = true
  · rw [c1, Bool.true_and] at h
    cases e : (S.headD []).filter (inAll S) with
    | nil => rw [e] at h; cases h
    | cons g gs =>
      have hg : g ∈ (S.headD []).filter (inAll S) := by rw [e]; exact List.mem_cons_self ..
      have ga := (List.mem_filter.1 hg).2
      unfold inAll at ga
      refine ⟨some g, fun c hc => ?_⟩
      have gc := of_decide_eq_true (List.all_eq_true.1 ga c hc)
      unfold tell
      rw [if_neg fun z => by rw [z] at gc; cases gc]
      exact List.mem_map.2 ⟨g, gc, rfl⟩
  · refine ⟨none, fun c hc => ?_⟩
    have : c = [] := by
      by_cases z : c = []
      · exact z
      · exact absurd (List.any_eq_true.2 ⟨c, hc, by cases c; exact absurd rfl z; rfl⟩) c1
    subst this
    exact List.mem_singleton.2 rfl
theorem one_whole (c : List Nat) : tornP [c] = false := by
  unfold tornP
  cases c with
  | nil => rfl
  | cons a l =>
    have : (([a :: l] : List (List Nat)).headD []).filter (inAll [a :: l]) = a :: l := by
      refine List.filter_eq_self.2 fun x hx => ?_
      unfold inAll
      rw [List.all_cons, decide_eq_true (show x ∈ a :: l from hx)]
      rfl
    rw [this]
    rfl
theorem chg_rep (r : List (Option Nat)) (x : Option Nat) : ∀ n, chg (r ++ List.replicate n x) ≤ chg r + (if r = [] then 0 else 1) ∧ (0 < n → (r ++ List.replicate n x).getLast? = some x)
  | 0 => ⟨by rw [List.replicate_zero, List.append_nil]; omega, fun h => absurd h (Nat.lt_irrefl 0)⟩
  | n + 1 => by
    have ih := chg_rep r x n
    have e : r ++ List.replicate (n + 1) x = (r ++ List.replicate n x) ++ [x] := by rw [List.replicate_succ', List.append_assoc]
    have s := chg_snoc (r ++ List.replicate n x) x
    rw [e]
    refine ⟨?_, fun _ => List.getLast?_concat⟩
    by_cases n0 : n = 0
    · subst n0
      rw [List.replicate_zero, List.append_nil] at s ⊢
      by_cases c : r = []
      · subst c
        rw [if_pos rfl]
        have : b2n (unlike [] x) = 0 := rfl
        omega
      · rw [if_neg c]
        have : b2n (unlike r x) ≤ 1 := by unfold b2n; split <;> omega
        omega
    · have u : unlike (r ++ List.replicate n x) x = false := by
        unfold unlike
        rw [ih.2 (by omega), decide_eq_true rfl]
        cases (r ++ List.replicate n x).isEmpty <;> rfl
      rw [u] at s
      have : b2n false = 0 := rfl
      omega
theorem valid_rep {cs : List (List Nat)} {r : List (Option Nat)} {x : Option Nat} {f k : Nat} (h : Valid (cs.take f) r) (hf : f ≤ k) (hk : k ≤ cs.length) (hx : ∀ c ∈ slc cs f k, x ∈ tell c) : Valid (cs.take k) (r ++ List.replicate (k - f) x) := by
  have hl := h.1
  rw [List.length_take] at hl
  refine ⟨by rw [List.length_append, List.length_replicate, List.length_take]; omega, fun i c g h1 h2 => ?_⟩
  have hi : i < k := by have := (List.getElem?_eq_some_iff.1 h1).1; rw [List.length_take] at this; omega
  rw [List.getElem?_take_of_lt hi] at h1
  by_cases c1 : i < f
  · rw [List.getElem?_append_left (by omega)] at h2
    exact h.2 i c g (by rw [List.getElem?_take_of_lt c1]; exact h1) h2
  · rw [List.getElem?_append_right (by omega)] at h2
    have hg : g = x := by
      rw [List.getElem?_replicate] at h2
      split at h2
      · exact (Option.some.inj h2).symm
      · cases h2
    subst hg
    refine hx c ?_
    unfold slc
    refine List.mem_of_getElem? (i := i - f) ?_
    rw [List.getElem?_take_of_lt (by omega), List.getElem?_drop, show f + (i - f) = i by omega]
    exact h1
def endOf (a : Int) (sts : List (Int × Int)) : Int := match sts.getLast? with
  | some p => p.2
  | none => a
theorem holds_snoc (cs : List (List Nat)) (p : Int × Int) : ∀ (sts : List (Int × Int)) (a : Int), holdsP cs a (sts ++ [p]) = (holdsP cs a sts && (fits cs.length (endOf a sts) p && tornP (cutC cs p.1 p.2)))
  | [], a => by
    show (fits cs.length a p && (tornP (cutC cs p.1 p.2) && true)) = (true && (fits cs.length a p && tornP (cutC cs p.1 p.2)))
    rw [Bool.and_true, Bool.true_and]
  | q :: sts, a => by
    have ih := holds_snoc cs p sts q.2
    have e : endOf a (q :: sts) = endOf q.2 sts := by
      unfold endOf
      rcases List.eq_nil_or_concat sts with rfl | ⟨l, z, rfl⟩
      · rfl
      · rw [List.concat_eq_append, List.getLast?_concat, ← List.cons_append, List.getLast?_concat]
    rw [List.cons_append, holdsP, holdsP, ih, e, Bool.and_assoc, Bool.and_assoc]
/-- the stretches that are found up to k, and where the one that goes on begins -/
structure Greedy (cs : List (List Nat)) (k f : Nat) (sts : List (Int × Int)) : Prop where
  fk : f ≤ k
  hold : holdsP cs 0 sts = true
  en : endOf 0 sts = f
  pre : ∃ r, Valid (cs.take f) r ∧ (if r = [] then 0 else chg r + 1) ≤ sts.length
  seg : tornP (slc cs f k) = false
theorem greedy0 (cs : List (List Nat)) : Greedy cs 0 0 [] := ⟨Nat.le_refl _, rfl, rfl, ⟨[], ⟨by rw [List.take_zero]; rfl, fun i c f h => by simp at h⟩, Nat.le_refl _⟩, by unfold slc; rw [Nat.sub_self, List.take_zero]; rfl⟩
theorem greedy_on {cs : List (List Nat)} {k f : Nat} {sts : List (Int × Int)} (g : Greedy cs k f sts) (h : tornP (cutC cs (f : Nat) (k : Nat)) = false) : Greedy cs (k + 1) f sts := ⟨by have := g.fk; omega, g.hold, g.en, g.pre, by rw [slc_cut] at h; exact h⟩
theorem greedy_torn {cs : List (List Nat)} {k f : Nat} {sts : List (Int × Int)} (g : Greedy cs k f sts) (hk : k < cs.length) (h : tornP (cutC cs (f : Nat) (k : Nat)) = true) : Greedy cs (k + 1) k (sts ++ [((f : Int), (k : Int))]) := by
  have fk := g.fk
  have f1 : f < k := by
    by_cases c : f < k
    · exact c
    · exfalso
      have : f = k := by omega
      subst this
      rw [slc_cut] at h
      unfold slc at h
      rw [show f + 1 - f = 1 by omega] at h
      have e : (cs.drop f).take 1 = [cs[f]] := by
        rw [List.drop_eq_getElem_cons hk, List.take_succ_cons, List.take_zero]
      rw [e, one_whole] at h
      cases h
  refine ⟨by omega, ?_, ?_, ?_, ?_⟩
  · rw [holds_snoc, g.hold, g.en]
    show (true && (fits cs.length (f : Int) ((f : Int), (k : Int)) && tornP (cutC cs (f : Nat) (k : Nat)))) = true
    rw [h]
    unfold fits
    rw [decide_eq_true (Int.le_refl _), decide_eq_true (by show (f : Int) ≤ (k : Int); omega), decide_eq_true (by show (k : Int) < (cs.length : Int); omega)]
    rfl
  · unfold endOf
    rw [List.getLast?_concat]
  · obtain ⟨r, hr, hc⟩ := g.pre
    obtain ⟨x, hx⟩ := whole g.seg
    refine ⟨r ++ List.replicate (k - f) x, valid_rep hr fk (by omega) hx, ?_⟩
    have := (chg_rep r x (k - f)).1
    rw [List.length_append, List.length_singleton]
    have c0 : r = [] → chg r = 0 := fun e => by rw [e]; rfl
    split
    · omega
    · by_cases c : r = []
      · have h0 := c0 c
        rw [if_pos c] at this
        omega
      · rw [if_neg c] at this hc
        omega
  · unfold slc
    rw [show k + 1 - k = 1 by omega]
    have e : (cs.drop k).take 1 = [cs[k]] := by
      rw [List.drop_eq_getElem_cons hk, List.take_succ_cons, List.take_zero]
    rw [e]
    exact one_whole _
/-- at the end: a row with no more changes than there are stretches -/
theorem greedy_row {cs : List (List Nat)} {f : Nat} {sts : List (Int × Int)} (g : Greedy cs cs.length f sts) : ∃ r, Valid cs r ∧ chg r ≤ sts.length := by
  obtain ⟨r, hr, hc⟩ := g.pre
  obtain ⟨x, hx⟩ := whole g.seg
  have v := valid_rep hr g.fk (Nat.le_refl _) hx
  rw [List.take_length] at v
  refine ⟨_, v, ?_⟩
  have := (chg_rep r x (cs.length - f)).1
  have c0 : r = [] → chg r = 0 := fun e => by rw [e]; rfl
  by_cases c : r = []
  · have h0 := c0 c
    rw [if_pos c] at this
    omega
  · rw [if_neg c] at this hc
    omega
theorem greedy_shown {fs : List Face} {t : List Int} {f : Nat} {sts : List (Int × Int)} (g : Greedy (chosen fs t) (chosen fs t).length f sts) : chg (shownP fs t) = sts.length := by
  obtain ⟨r, hr, hc⟩ := greedy_row g
  have h1 := shown_min hr
  have h2 := holds_chg (shown_valid fs t) g.hold
  omega
end FF
set_option Elab.async false
set_option linter.all false
set_option maxRecDepth 100000
set_option maxHeartbeats 4000000
/-! the program: reason -/
namespace FF
open PySem PySem.Spec PyProof.Rows L2
open GxR (TabB TabG Tabbed)
def sp_reason (C : Addr) (T : List Addr) : Sp := fun vs H Q _ => ∃ (x : Addr) (v : V) (fs : List Face) (t : List Int), vs = [.ref x, v] ∧ CaseAt No C H x fs ∧ Dt No H (.list (t.map .int)) v ∧ fs.length ≤ 1000 ∧ t.length ≤ 1000 ∧ badAt t = none ∧ (Rt T).I H ∧
  ∀ (f : Nat) (sts : List (Int × Int)) (u : V) (H' : Hp), Greedy (chosen fs t) (chosen fs t).length f sts → sts.length ≤ (chosen fs t).length → Le (Rt T) H H' → Dt (Dom H) H' (.list (sts.map sD)) u → Q u H'
abbrev r_reason (K : PySem.W.Frag) (C : Addr) (T : List Addr) : TS :=
    (tSeq (tAsg (tCall (sp_choices C T) [] E0 (tCons (tVar 0) (tCons (tVar 1) tNil))) (gName 2))
    (tSeq (tAsg (tLst tNil) (gName 3))
    (tSeq (tAsg (tC (.int 0)) (gName 4))
    (tSeq (tFor (iRng1 (tCons (tCB (rLenU K) (tCons (tVar 2) tNil)) tNil)) (gName 5) (tIfS (tTru K (tCall (sp_is_torn T) [] E0 (tCons (tSl (rSlU K) (tVar 2) (tPart (tVar 4)) (tPart (tOp (rAddU K) (tVar 5) (tC (.int 1))))) tNil))) (tSeq (tDrop (tBM K "list" rAppend (tVar 3) (tCons (tTup (tCons (tVar 4) (tCons (tVar 5) tNil))) tNil)))
    (tAsg (tVar 5) (gName 4))) tNext))
    (tRet (tVar 3))))))
section
variable {R : Rg} {K : PySem.W.Frag} {σ : L2.St} {H : Hp} {N : Addr → Prop} {D : Ends} {te : TE} {tz : TS} {φp : PyData → Prop}
theorem q_appP {i : Nat} {p : Addr} {xs : List V} (hσ : σ[i]? = some (some (.ref p))) (hp : H p = some (.lst xs)) (pW : ¬ R.W p) (h : EvP R te σ H N φp) (ok : R.I H) (hz : xs.length < 100000) (q : ∀ d v H2, Le R H H2 → φp d → Dt N H2 d v → H2 p = some (.lst xs) → tz D σ (upd H2 p (.lst (xs ++ [v])))) :
    tSeq (tDrop (tBM K "list" rAppend (tVar i) (tCons te tNil))) tz D σ H := s_appP (R := R) (D := { D with nx := tz D }) hσ hp pW h ok hz q
end
section
variable {K : PySem.W.Frag} {C : Addr} {T : List Addr}
theorem rd_reason (vs : List V) (H : Hp) (Q : VK) (E : XK) (h : sp_reason C T vs H Q E) : r_reason K C T { nx := fun _ H' => Q .non H', rt := Q } (start ["case", "text", "faces_of", "stretches", "first", "last"] vs) H := by
  obtain ⟨x, v, fs, t, rfl, hc, hv, hf, hl, hb, ok, k⟩ := h
  have nW : ∀ a, (Rt T).W a → a ∈ T := fun a w => w
  have nk : Nk (Rt T) (Dom H) H := Nk.dom ok
  have hc2 := hc.rt ok
  have hv2 : Dt (fun a => a ∈ T) H (.list (t.map .int)) v := hv.rt ok
  have cl := chosen_len (fs := fs) (t := t)
  have lcd : ((chosen fs t).map natsD).length = (chosen fs t).length := List.length_map ..
  refine q_asg (R := Rt T) (N := Dom H) (d := chosenD (chosen fs t)) (fun H1 e Q q => ⟨_, rfl, _, rfl, x, v, fs, t, rfl, (hc2.le e nW).weak fun a z => z.elim, (hv2.le e nW).no, hf, hl, hb, e.ok, fun u H' e' r => q u H' e' (r.weak (nk.le e).domle)⟩) ok fun vc H1 e1 rc => ?_
  refine q_asgNew (R := Rt T) e1.ok fun p H2 hp1 e2 h2 => ?_
  have hp : H p = none := e1.back p hp1
  have pW : ¬ (Rt T).W p := rt_not ok hp
  refine q_asg (R := Rt T) (N := No) (d := .int 0) e_int e2.ok fun z H3 e3 rz => ?_
  cases rz
  have e13 := (e1.trans e2).trans e3
  have h3 := e3.ext p _ pW h2
  have rc3' := ((rc.more hp1).le e2 fun a w => .inr (nk.sub a w)).le e3 fun a w => .inr (nk.sub a w)
  have rc3 : Dt (Dom H) H3 (chosenD (chosen fs t)) vc := rc3'.weak fun a h => .inr h
  refine q_forZ (R := Rt T) (φ := fun n => n = ((chosen fs t).length : Int)) (fun i σ' H' => ∃ (a5 : Option V) (f : Nat) (sts : List (Int × Int)) (us : List V), σ' = [some (.ref x), some v, some vc, some (.ref p), some (.int (f : Int)), a5] ∧ Greedy (chosen fs t) i f sts ∧ sts.length ≤ i ∧ Le (Rt T) H H' ∧ Dt (fun a => a = p ∨ Dom H a) H' (chosenD (chosen fs t)) vc ∧ H' p = some (.lst us) ∧ DtA No H' (sts.map sD) us)
    (z_of (N := No) ((e_lenl (N := Dom H) (N' := No) (e_var rfl rc3 nk.sub)).is (by rw [lcd])) rfl) e3.ok (fun n q => by rw [q]; omega) (fun n H4 e4 _ => ⟨none, 0, [], [], rfl, greedy0 _, Nat.le_refl _, e13.trans e4, rc3'.le e4 (fun a w => .inr (nk.sub a w)), e4.ext p _ pW h3, .nil⟩) (fun n i σ' H' hn hi pv => ?_) (fun n σ' H' hn pv => ?_)
  · subst hn
    obtain ⟨a5, f, sts, us, rfl, g, sl, l0, rv', hu, ru⟩ := pv
    have rv : Dt (Dom H) H' (chosenD (chosen fs t)) vc := rv'.weak fun a h => .inr h
    have hil : i < (chosen fs t).length := by omega
    have fk := g.fk
    have cok := cutC_ok (cs := chosen fs t) (f := f) (l := i) fk hil
    have sl_ : Ev (Rt T) (tSl (rSlU K) (tVar 2) (tPart (tVar 4)) (tPart (tOp (rAddU K) (tVar 5) (tC (.int 1))))) [some (.ref x), some v, some vc, some (.ref p), some (.int (f : Int)), some (.int (i : Int))] H' (Dom H) (chosenD (cutC (chosen fs t) (f : Nat) (i : Nat))) := (e_sll (ds := (chosen fs t).map natsD) (e_var rfl rv nk.sub) (o_some (i := ((f : Nat) : Int)) (e_vi rfl)) (o_some (i := ((i + 1 : Nat) : Int)) ((e_add (e_vi rfl) e_int).is rfl)) (nk.le l0)).is (by rw [cutD_mid _ _ _ (by omega) (by rw [lcd]; omega)]; unfold chosenD cutC; rw [Int.toNat_natCast, Int.toNat_natCast, List.map_take, List.map_drop])
    have t1 : EvT (Rt T) (tTru K (tCall (sp_is_torn T) [] E0 (tCons (tSl (rSlU K) (tVar 2) (tPart (tVar 4)) (tPart (tOp (rAddU K) (tVar 5) (tC (.int 1))))) tNil))) [some (.ref x), some v, some vc, some (.ref p), some (.int (f : Int)), some (.int (i : Int))] H' (tornP (cutC (chosen fs t) (f : Nat) (i : Nat))) := t_trub (N := No) (e_call (a_one sl_) fun H5 vs e r Q q => by
      cases r with
      | cons r1 r2 =>
        cases r2
        exact ⟨_, cutC (chosen fs t) (f : Nat) (i : Nat), rfl, r1.no, cok.1, by have := cok.2.1; omega, fun c hc => chosen_few hf c (cok.2.2 c hc), e.ok, fun H6 e6 => q _ H6 e6 (.bl _)⟩)
    refine s_if (R := Rt T) t1 l0.ok (fun c H4 e4 => ?_) (fun c H4 e4 => ?_)
    · have l4 := l0.trans e4
      have tp : Ev (Rt T) (tTup (tCons (tVar 4) (tCons (tVar 5) tNil))) [some (.ref x), some v, some vc, some (.ref p), some (.int (f : Int)), some (.int (i : Int))] H4 (Dom H) (sD ((f : Int), (i : Int))) := (e_tup (ds := [.int f, .int i]) (a_cons (e_vi rfl) (a_one (e_vi rfl)) nk.sub) nk.sub (by show 2 ≤ 100000; decide)).is rfl
      refine q_appP (R := Rt T) (N := Dom H) (i := 3) (p := p) (xs := us) (φp := fun d => d = sD ((f : Int), (i : Int))) rfl (e4.ext p _ pW hu) pW tp.p e4.ok (by rw [ru.length, List.length_map]; omega) fun d y H5 e5 hd ry h5 => ?_
      subst hd
      have e45 := e4.trans e5
      have l5 := l0.trans e45
      have l6 : Le (Rt T) H (upd H5 p (.lst (us ++ [y]))) := l5.put hp h5
      have lp : Le ((Rt T).plus p) H5 (upd H5 p (.lst (us ++ [y]))) := (Le.refl (R := (Rt T).plus p) (H := H5) ⟨l5.ok, pW, _, h5⟩).setp h5
      refine s_asg (R := Rt T) (N := No) (d := .int (i : Int)) (e_vi rfl) l6.ok fun w H6 e6 rw_ => ?_
      cases rw_
      have rv5 := rv'.le e45 fun a w => .inr (nk.sub a w)
      have h6 : H6 p = some (.lst (us ++ [y])) := e6.ext p _ pW upd_same
      have r5 : DtA No H5 (sts.map sD) us := s_any ((s_any (N' := fun a => a ∈ T) ru).le e45 nW)
      have rv6 := rv5.le lp fun a w => w.elim (fun w => .inr (nk.sub a w)) .inl
      refine ⟨_, i, sts ++ [((f : Int), (i : Int))], us ++ [y], rfl, greedy_torn g hil c, by rw [List.length_append]; show sts.length + 1 ≤ i + 1; omega, l6.trans e6, rv6.le e6 (fun a w => .inr (nk.sub a w)), h6, ?_⟩
      rw [List.map_append]
      have a1 := s_any (N' := fun a => a ∈ T) ((s_any (N' := fun a => (Rt T).W a ∨ a = p) r5).le lp fun a w => w)
      have a2 := s_any (N' := fun a => a ∈ T) (DtA.le (s_any (N := Dom H) (N' := fun a => (Rt T).W a ∨ a = p) (ps := [((f : Int), (i : Int))]) (.cons ry .nil)) lp fun a w => w)
      exact DtA.append (s_any (a1.le e6 nW)) (s_any (a2.le e6 nW))
    · exact ⟨_, f, sts, us, rfl, greedy_on g c, by omega, l0.trans e4, rv'.le e4 (fun a w => .inr (nk.sub a w)), e4.ext p _ pW hu, s_any ((s_any (N' := fun a => a ∈ T) ru).le e4 nW)⟩
  · subst hn
    obtain ⟨a5, f, sts, us, rfl, g, sl, l0, rv, hu, ru⟩ := pv
    exact ⟨_, rfl, k f sts _ H' g sl l0 (.lst (fun ⟨o, z⟩ => by rw [hp] at z; cases z) hu (s_any ru))⟩
end
end FF
set_option Elab.async false
set_option linter.all false
set_option maxRecDepth 100000
set_option maxHeartbeats 4000000
/-! k06: the law -/
namespace FF
open PySem PySem.Spec PyProof.Rows L2
open GxR (TabB TabG Tabbed)
abbrev r6_ask (K : PySem.W.Frag) (C : Addr) (T : List Addr) (spA : Sp) : TS :=
    (tSeq (tAsg (tTup (tCons (tCB (rListU K) (tCons (tVar 5) tNil)) (tCons (tCB (rListU K) (tCons (tVar 8) tNil)) tNil))) (gName 9))
    (tSeq (tAsg (tCall (sp_holds C T) [] E0 (tCons (tVar 6) (tCons (tOp (rIx K) (tVar 9) (tC (.int 0))) (tCons (tOp (rIx K) (tVar 9) (tC (.int 1))) tNil)))) (gName 10))
    (tSeq (tIfS (tOr (tNot (tTru K (tCall spA [] E0 (tCons (tVar 10) (tCons (tCall (sp__law_due K) [] E0 (tCons (tVar 7) (tCons (tVar 8) tNil))) tNil))))) (tTest (tOp (rNeD K) (tVar 9) (tTup (tCons (tVar 5) (tCons (tVar 8) tNil)))))) (tRet (tC (.bl false))) tNext)
    (tIfS (tAnd (tTru K (tVar 10)) (tTest (tOp (rI0 fun i j => .bl (decide (i < j))) (tCall sp_changes [] E0 (tCons (tCall (sp_shown C T) [] E0 (tCons (tVar 6) (tCons (tVar 5) tNil))) tNil)) (tCB (rLenU K) (tCons (tVar 8) tNil))))) (tRet (tC (.bl false))) tNext))))
abbrev r6_turn (K : PySem.W.Frag) (C : Addr) (T : List Addr) (spA : Sp) : TS :=
    (tSeq (tAsg (tCall (sp__law_pool K) [] E0 (tCons (tVar 1) tNil)) (gName 3))
    (tSeq (tAsg (tCall (sp__law_faces K) [] E0 (tCons (tVar 1) (tCons (tVar 3) (tCons (tC (.int 8)) tNil)))) (gName 4))
    (tSeq (tAsg (tCall (sp__law_signs K) [] E0 (tCons (tVar 1) (tCons (tVar 3) (tCons (tC (.int 40)) tNil)))) (gName 5))
    (tSeq (tAsg (tMake C (sp_init C T) [] E0 (tCons (tCB (rListU K) (tCons (tVar 4) tNil)) tNil)) (gName 6))
    (tSeq (tAsg (tCall (sp__law_every K) [] E0 (tCons (tVar 4) (tCons (tVar 5) tNil))) (gName 7))
    (tSeq (tAsg (tCall (sp__law_stretches K) [] E0 (tCons (tVar 1) (tCons (tVar 7) tNil))) (gName 8))
    (r6_ask K C T spA)))))))
abbrev r6_law (K : PySem.W.Frag) (C : Addr) (T : List Addr) (spA : Sp) : TS :=
    (tSeq (tAsg (tLst (tCons (tVar 0) (tCons (tC (.int 0)) (tCons (tC (.int 0)) (tCons (tC (.int 0)) tNil))))) (gName 1))
    (tSeq (tFor (iRng1 (tCons (tC (.int 4)) tNil)) (gName 2) (r6_turn K C T spA))
    (tRet (tC (.bl true)))))
theorem ok8_chosen {fs : List Face} {t : List Int} (fl : fs.length ≤ 8) (tl : t.length ≤ 200) : Ok8 (chosen fs t) := ⟨by have := chosen_len (fs := fs) (t := t); omega, fun c hc => by
  unfold chosen at hc
  obtain ⟨p, _, rfl⟩ := List.mem_map.1 hc
  refine ⟨by have := havP_len fs p; omega, fun x hx => by have := havP_lt hx; omega⟩⟩
theorem ok_sts {sts : List (Int × Int)} (h : sts.length ≤ 1000) : okD 2 (.list (sts.map sD)) := ⟨by rw [List.length_map]; omega, fun x hx => by
  obtain ⟨c, _, rfl⟩ := List.mem_map.1 hx
  refine ⟨by show 2 ≤ 40000; decide, fun y hy => ?_⟩
  simp only [List.mem_cons, List.not_mem_nil, or_false] at hy
  rcases hy with rfl | rfl <;> exact ok_int _ _⟩
section
variable {K : PySem.W.Frag} {C ar as : Addr} {sc : List Int} {T : List Addr} {H : Hp} {D : Ends} {tz : TS}
theorem ask6 {x2 x3 x9 x10 : Option V} {s0 vf vt ve vs : V} {cx : Addr} {fs : List Face} {t : List Int} {sts : List (Int × Int)} (ok : (Rl K ar as sc T).I H) (hc : CaseAt (Wl ar T) C H cx fs) (ht : Dt (Wl ar T) H (.list (t.map .int)) vt) (he : Dt (Wl ar T) H (chosenD (chosen fs t)) ve) (hs : Dt (Wl ar T) H (.list (sts.map sD)) vs)
    (fl : fs.length ≤ 8) (tl : t.length ≤ 200) (hb : badAt t = none) (sl : sts.length ≤ 10)
    (q : ∀ a9 a10 H2, Le (Rl K ar as sc T) H H2 → D.nx [some s0, some (.ref ar), x2, x3, some vf, some vt, some (.ref cx), some ve, some vs, a9, a10] H2) :
    r6_ask K C T (spA 2 K) D [some s0, some (.ref ar), x2, x3, some vf, some vt, some (.ref cx), some ve, some vs, x9, x10] H := by
  have nW : ∀ a, (Rl K ar as sc T).W a → Wl ar T a := fun a w => w
  have okt : okD 2 (.list (t.map PyData.int)) := ⟨by rw [List.length_map]; omega, fun x hx => by obtain ⟨z, _, rfl⟩ := List.mem_map.mp hx; exact ok_int _ _⟩
  have oks : okD 2 (.list (sts.map sD)) := ok_sts (by omega)
  have okh : okD 3 (.tuple [.list (t.map .int), .list (sts.map sD)]) := ⟨by show 2 ≤ 40000; decide, fun y hy => by
    simp only [List.mem_cons, List.not_mem_nil, or_false] at hy
    rcases hy with rfl | rfl
    · exact okt
    · exact oks⟩
  have hand : Ev (Rl K ar as sc T) (tTup (tCons (tCB (rListU K) (tCons (tVar 5) tNil)) (tCons (tCB (rListU K) (tCons (tVar 8) tNil)) tNil))) [some s0, some (.ref ar), x2, x3, some vf, some vt, some (.ref cx), some ve, some vs, x9, x10] H (Wl ar T) (.tuple [.list (t.map .int), .list (sts.map sD)]) := e_tup (a_cons (e_list (e_var rfl ht nW) (wl_nk ok)) (a_one (e_list (e_var rfl hs nW) (wl_nk ok))) nW) nW (by show 2 ≤ 100000; decide)
  refine q_asg (R := Rl K ar as sc T) (N := Wl ar T) hand ok fun vh H1 e1 rh => ?_
  have hol : Ev (Rl K ar as sc T) (tCall (sp_holds C T) [] E0 (tCons (tVar 6) (tCons (tOp (rIx K) (tVar 9) (tC (.int 0))) (tCons (tOp (rIx K) (tVar 9) (tC (.int 1))) tNil)))) [some s0, some (.ref ar), x2, x3, some vf, some vt, some (.ref cx), some ve, some vs, some vh, x10] H1 No (.bool (holdsP (chosen fs t) 0 sts)) := fun H2 e Q q => ⟨_, rfl, (e_ixt (N := Wl ar T) (i := 0) (e_var rfl (rh.le e nW) nW) e_int nW rfl) H2 (Le.refl e.ok) _ fun u H3 e3 ru => (e_ixt (N := Wl ar T) (i := 1) (e_var rfl ((rh.le e nW).le e3 nW) nW) e_int nW rfl) H3 (Le.refl e3.ok) _ fun w H4 e4 rw_ =>
    ⟨cx, u, w, fs, t, sts, rfl, ((hc.le e1 nW).le ((e.trans e3).trans e4) nW).weak fun a z => z.elim, (ru.le e4 nW).no, rw_.no, by omega, by omega, by omega, hb, e4.ok.2, fun H5 e5 => q _ H5 ((e3.trans e4).trans (e5.rt e4.ok.1)) (.bl _)⟩⟩
  refine q_asg (R := Rl K ar as sc T) (N := No) hol e1.ok fun vo H2 e2 ro => ?_
  cases ro
  have l2 := e1.trans e2
  have due : Ev (Rl K ar as sc T) (tCall (sp__law_due K) [] E0 (tCons (tVar 7) (tCons (tVar 8) tNil))) [some s0, some (.ref ar), x2, x3, some vf, some vt, some (.ref cx), some ve, some vs, some vh, some (.bl (holdsP (chosen fs t) 0 sts))] H2 (Wl ar T) (.bool (holdsP (chosen fs t) 0 sts)) := fun H3 e Q q => ⟨_, rfl, _, rfl, ve, vs, chosen fs t, sts, rfl, (he.le (l2.trans e) nW).no, (hs.le (l2.trans e) nW).no, ok8_chosen fl tl, by omega, fun H4 e4 => q _ H4 (Le.of_ex e4 e.ok) (.bl _)⟩
  have bv : Ev (Rl K ar as sc T) (tVar 10) [some s0, some (.ref ar), x2, x3, some vf, some vt, some (.ref cx), some ve, some vs, some vh, some (.bl (holdsP (chosen fs t) 0 sts))] H2 (Wl ar T) (.bool (holdsP (chosen fs t) 0 sts)) := e_var (N := Wl ar T) rfl (.bl _) nW
  have tup : Ev (Rl K ar as sc T) (tTup (tCons (tVar 5) (tCons (tVar 8) tNil))) [some s0, some (.ref ar), x2, x3, some vf, some vt, some (.ref cx), some ve, some vs, some vh, some (.bl (holdsP (chosen fs t) 0 sts))] H2 (Wl ar T) (.tuple [.list (t.map .int), .list (sts.map sD)]) := e_tup (a_cons (e_var rfl (ht.le l2 nW) nW) (a_one (e_var rfl (hs.le l2 nW) nW)) nW) nW (by show 2 ≤ 100000; decide)
  refine q_no (R := Rl K ar as sc T) (EvT.is (a := (!true || !true)) (t_or (t_not (t_trub (N := No) (e_call (a_cons bv (a_one due) nW) fun H3 vs e r Q q => ?_))) fun _ => t_cmp (N := Wl ar T) ((e_ne (e_var rfl (rh.le e2 nW) nW) tup nW (ok_shaped okh (by decide)) (ok_shaped okh (by decide))).is (by rw [ok_eqv okh]))) rfl) e2.ok fun H3 e3 => ?_
  · cases r with
    | cons r1 r2 => cases r2 with
      | cons r2 r3 =>
        cases r3
        exact ⟨_, _, .bool (holdsP (chosen fs t) 0 sts), rfl, r1.no, r2.no, trivial, fun H4 e4 => q _ H4 (Le.of_ex e4 e.ok) (.bl _)⟩
  · have l3 := l2.trans e3
    have cll := clusP_len t
    have shl := shown_len (fs := fs) (t := t) (by omega) (by omega)
    have lsd : (sts.map sD).length = sts.length := List.length_map ..
    have t2 : EvT (Rl K ar as sc T) (tAnd (tTru K (tVar 10)) (tTest (tOp (rI0 fun i j => .bl (decide (i < j))) (tCall sp_changes [] E0 (tCons (tCall (sp_shown C T) [] E0 (tCons (tVar 6) (tCons (tVar 5) tNil))) tNil)) (tCB (rLenU K) (tCons (tVar 8) tNil))))) [some s0, some (.ref ar), x2, x3, some vf, some vt, some (.ref cx), some ve, some vs, some vh, some (.bl (holdsP (chosen fs t) 0 sts))] H3 (holdsP (chosen fs t) 0 sts && decide (((chg (shownP fs t) : Nat) : Int) < (sts.length : Nat))) := by
      refine t_and (t_trub (N := Wl ar T) (e_var (N := Wl ar T) rfl (.bl _) nW)) fun _ => t_cmp (N := No) (e_IB (g := fun i j => decide (i < j)) (e_call (N := Wl ar T) (a_one (d := rowD (shownP fs t)) fun H4 e Q q => ⟨_, rfl, _, rfl, cx, vt, fs, t, rfl, (hc.le (l3.trans e) nW).weak fun a z => z.elim, (ht.le (l3.trans e) nW).no, by omega, by omega, hb, e.ok.2, fun u H5 e5 ru => q u H5 (e5.rt e.ok.1) (ru.weak (wl_dom e.ok))⟩) fun H4 vs e r1 Q q => ?_) ((e_lenl (N := Wl ar T) (e_var rfl (hs.le l3 nW) nW)).is (by rw [lsd])))
      cases r1 with
      | cons r1 r2 =>
        cases r2
        exact ⟨_, shownP fs t, rfl, r1.no, by omega, fun H5 e5 => q _ H5 (e5.r0l e.ok) (.int _)⟩
    refine s_if (R := Rl K ar as sc T) (b := false) (t2.is ?_) e3.ok (fun c => nomatch c) fun _ H4 e4 => q _ _ H4 (l3.trans e4)
    cases z : holdsP (chosen fs t) 0 sts with
    | false => rfl
    | true =>
      have := holds_chg (shown_valid fs t) z
      rw [Bool.true_and, decide_eq_false (by omega)]
theorem rd6_law (vs : List V) (H : Hp) (Q : VK) (E : XK) (h : sp2_law K T vs H Q E) : r6_law K C T (spA 2 K) { nx := fun _ H' => Q .non H', rt := Q } (start ["_law_script", "_law_row", "_law_turn", "_law_pool_here", "_law_faces_here", "_law_text", "_law_case", "_law_every_here", "_law_stretches_here", "_law_handed", "_law_found"] vs) H := by
  obtain ⟨as, sc, rfl, hsc, tb, k⟩ := h
  refine ⟨_, rfl, by rw [sizeLine_eq]; simp, fun ar har => ?_⟩
  have ok1 : (Rl K ar as sc T).I (upd H ar (.lst [.ref as, .int 0, .int 0, .int 0])) := ⟨⟨⟨0, 0, 0, Int.le_refl _, upd_same⟩, hsc.imp (fun ⟨o, q⟩ => ⟨o, by rw [upd_ne (fun e => by rw [e, har] at q; cases q)]; exact q⟩) id⟩, rt_upd tb (rt_not tb har)⟩
  have nW : ∀ a, (Rl K ar as sc T).W a → Wl ar T a := fun a w => w
  show tSeq (tFor (iRng1 (tCons (tC (.int 4)) tNil)) (gName 2) (r6_turn K C T (spA 2 K))) (tRet (tC (.bl true))) { nx := fun _ H' => Q .non H', rt := Q } [some (.ref as), some (.ref ar), none, none, none, none, none, none, none, none, none] _
  refine q_forZ (R := Rl K ar as sc T) (φ := fun n => n = 4) (fun i σ' H' => (∃ y2 y3 y4 y5 y6 y7 y8 y9 ya, σ' = [some (.ref as), some (.ref ar), y2, y3, y4, y5, y6, y7, y8, y9, ya]) ∧ (Rl K ar as sc T).I H') (fun H1 e Q q => q 4 H1 (Le.refl e.ok) rfl) ok1 (fun n q => by rw [q]; decide) (fun n H1 e1 _ => ⟨⟨_, _, _, _, _, _, _, _, _, rfl⟩, e1.ok⟩) (fun n i σ' H' hn hi p => ?_) (fun n σ' H' hn p => ?_)
  · obtain ⟨⟨y2, y3, y4, y5, y6, y7, y8, y9, ya, rfl⟩, ok⟩ := p
    have domar : ∀ {H4 : Hp}, (Rl K ar as sc T).I H4 → ∀ a, a = ar → Dom H4 a := fun o a ha => wl_dom o a (.inl ha)
    refine ⟨_, rfl, ar, as, sc, rfl, ok.1, fun ls ms vp H2 pok e2 r2 => ?_⟩
    have e2' : Le (Rl K ar as sc T) H' H2 := e2.rr ok.2
    have rp2 : Dt (fun a => a = ar) H2 (poolD ls ms) vp := r2.weak (domar ok)
    refine ⟨_, rfl, _, rfl, ar, as, sc, vp, ls, ms, 8, rfl, e2'.ok.1, pok, rp2, by decide, by decide, fun fs vf H3 fok e3 r3 => ?_⟩
    have e3' : Le (Rl K ar as sc T) H2 H3 := e3.rr e2'.ok.2
    refine ⟨_, rfl, _, rfl, ar, as, sc, vp, ls, ms, 40, rfl, e3'.ok.1, pok, rp2.le e3 fun a w => w, by decide, by decide, fun t vt H4 tok e4 r4 => ?_⟩
    have e4' : Le (Rl K ar as sc T) H3 H4 := e4.rr e3'.ok.2
    have rf4 : Dt (Wl ar T) H4 (facesD fs) vf := (r3.weak (wl_dom e2'.ok)).le e4' nW
    have rt4 : Dt (Wl ar T) H4 (.list (t.map .int)) vt := r4.weak (wl_dom e3'.ok)
    refine q_case (i := 4) (j := 6) rfl rf4.no fok e4'.ok.2 fun cx H5 e5 c5 => ?_
    have e5' : Le (Rl K ar as sc T) H4 H5 := e5.rt e4'.ok.1
    have hc5 : CaseAt (Wl ar T) C H5 cx fs := c5.weak (wl_dom e4'.ok)
    have tl := tok.2
    have fl := fok.ln
    have hb := sign_none tok.1
    have rt5 := rt4.le e5' nW
    have rf5 := rf4.le e5' nW
    have ev : Ev (Rl K ar as sc T) (tCall (sp__law_every K) [] E0 (tCons (tVar 4) (tCons (tVar 5) tNil))) [some (.ref as), some (.ref ar), some (.int (i : Int)), some vp, some vf, some vt, some (.ref cx), y7, y8, y9, ya] H5 (Wl ar T) (chosenD (chosen fs t)) := e_call (N := Wl ar T) (a_cons (e_var rfl rf5 nW) (a_one (e_var rfl rt5 nW)) nW) fun H6 vs e r Q q => by
      cases r with
      | cons r1 r2 => cases r2 with
        | cons r2 r3 =>
          cases r3
          exact ⟨_, _, fs, t, rfl, r1.no, r2.no, by omega, by omega, fun v' H7 e7 r7 => q v' H7 (Le.of_ex e7 e.ok) (by rw [every_parts] at r7; exact r7.weak fun a w => wl_dom e.ok a w)⟩
    refine q_asg (R := Rl K ar as sc T) (N := Wl ar T) ev e5'.ok fun ve H6 e6 re => ?_
    refine ⟨_, rfl, _, rfl, ar, as, sc, ve, chosen fs t, rfl, e6.ok.1, re.weak fun a ha => .inl ha, ok8_chosen fl tl, fun sts u H7 sl e7 r7 => ?_⟩
    have e7' : Le (Rl K ar as sc T) H6 H7 := e7.rr e6.ok.2
    have e57 := e6.trans e7'
    exact ask6 e7'.ok (hc5.le e57 nW) (rt5.le e57 nW) (re.le e7' nW) (r7.weak (wl_dom e6.ok)) fl tl hb sl fun a9 a10 H8 e8 => ⟨⟨_, _, _, _, _, _, _, _, _, rfl⟩, e8.ok⟩
  · exact k H'
end
end FF
set_option Elab.async false
set_option linter.all false
set_option maxRecDepth 100000
set_option maxHeartbeats 4000000
/-! k05: the law's row and right -/
namespace FF
open PySem PySem.Spec PyProof.Rows L2
open GxR (TabB TabG Tabbed)
def rNotBl : R2 := fun x y H Q => ∃ a b, x = .bl a ∧ y = .bl b ∧ Q (.bl (!decide (a = b))) H
theorem op_isNotBl {X : Cx} : OpR X (compareOp .IsNot) rNotBl := by
  intro pins s σ H x y v u Q I rx ry h
  obtain ⟨a, b, rfl, rfl, q⟩ := h
  cases rx; cases ry
  refine wpAny_isNot_plain (by rfl) ⟨.bl (!decide (a = b)), H, I, ?_, q⟩
  show Value.bool _ = Value.bool _
  congr 1
  cases a <;> cases b <;> rfl
section
variable {R : Rg} {K : PySem.W.Frag} {σ : L2.St} {H : Hp} {N N' : Addr → Prop} {D : Ends} {ta tb tc te ti : TE} {t u : TT} {φb : Bool → Prop}
theorem tp_and2 {a : Bool} (h1 : EvT R t σ H a) (h2 : a = true → EvTP R u σ H φb) : EvTP R (tAnd t u) σ H (fun b => b = true → a = true ∧ φb true) := fun H1 e Q q => h1 H1 e _ fun H2 e2 => by
  cases a with
  | true =>
    show u σ H2 Q
    exact h2 rfl H2 (e.trans e2) Q fun b H3 e3 pb => q b H3 (e2.trans e3) fun eb => ⟨rfl, eb ▸ pb⟩
  | false => exact q false H2 e2 fun z => nomatch z
theorem inV_opt (f : Option Nat) (c : List Nat) : ∀ v : V, Dt No H (oD f) v → inV v ((c.map fun n : Nat => (n : Int)).map V.int) = decide (f ∈ c.map some) := by
  intro v hv
  cases f with
  | none =>
    cases hv
    unfold inV
    have e1 : decide ((none : Option Nat) ∈ c.map some) = false := decide_eq_false fun h => by obtain ⟨n, _, e⟩ := List.mem_map.1 h; cases e
    rw [e1, List.any_eq_false]
    intro x hx
    obtain ⟨z, _, rfl⟩ := List.mem_map.1 hx
    exact Bool.false_ne_true
  | some n =>
    cases hv
    rw [inV_ints]
    refine decide_eq_decide.2 ⟨fun h => ?_, fun h => ?_⟩
    · obtain ⟨g, hg, e⟩ := List.mem_map.1 h
      rw [← Int.ofNat.inj e]
      exact List.mem_map.2 ⟨g, hg, rfl⟩
    · obtain ⟨g, hg, e⟩ := List.mem_map.1 h
      cases e
      exact List.mem_map.2 ⟨n, hg, rfl⟩
theorem e_inO {f : Option Nat} {c : List Nat} (ha : Ev R ta σ H N (oD f)) (hb : Ev R tb σ H N (natsD c)) : Ev R (tOp (rInU K false) ta tb) σ H N' (.bool (decide (f ∈ c.map some))) := fun H1 e Q q =>
  ha H1 e _ fun u H2 e2 ru => hb H2 (e.trans e2) _ fun v H3 e3 rv => by
    unfold natsD at rv
    rw [nats_ints] at rv
    obtain ⟨p, xs, rfl, na, hp, ra⟩ := rv.listy
    have ex := ra.ints
    subst ex
    have fu : flatV u = true := by cases f <;> cases ru <;> rfl
    refine .inl ⟨p, _, rfl, .inl (SqL.of hp), fu, flat_ints _, ?_⟩
    have := inV_opt (H := H2) f c u (by cases f <;> cases ru <;> constructor)
    show Q (.bl (inV u ((c.map fun n : Nat => (n : Int)).map V.int))) H3
    rw [this]
    exact q _ H3 (e2.trans e3) (.bl _)
end
theorem ok_optsR {l : List (Option Nat)} (h : l.length ≤ 40000) (n : Nat) : okD (n + 1) (.list (l.map oD)) := ⟨by rw [List.length_map]; exact h, fun x hx => by obtain ⟨o, _, rfl⟩ := List.mem_map.1 hx; cases o <;> cases n <;> trivial⟩
def sp__law_row (K : PySem.W.Frag) : Sp := fun vs H Q _ => ∃ (ar as : Addr) (sc : List Int) (vf vt : V) (fs : List Face) (t : List Int), vs = [.ref ar, vf, vt] ∧ RowI K ar as sc H ∧ Dt (fun a => a = ar) H (facesD fs) vf ∧ Dt (fun a => a = ar) H (.list (t.map .int)) vt ∧ fs.length ≤ 8 ∧ t.length ≤ 200 ∧
  ∀ (r : List (Option Nat)) (u : V) (H' : Hp), Valid (chosen fs t) r → Le (Rr K ar as sc) H H' → Dt (Dom H) H' (rowD r) u → Q u H'
abbrev r__law_row (K : PySem.W.Frag) : TS :=
    (tSeq (tAsg (tLst tNil) (gName 3))
    (tSeq (tFor (iList K (tCall (sp__law_every K) [] E0 (tCons (tVar 1) (tCons (tVar 2) tNil)))) (gName 4) (tIfS (tTest (tOp (rEqD K) (tVar 4) (tLst tNil))) (tDrop (tBM K "list" rAppend (tVar 3) (tCons (tC .non) tNil))) (tIfS (tAnd (tTest (tOp (rNeD K) (tVar 3) (tLst tNil))) (tAnd (tTest (tOp (rInU K false) (tOp (rIx K) (tVar 3) (tUn (rU fun i => .int (-i)) (tC (.int 1)))) (tVar 4))) (tTest (tOp (rI0 fun i j => .bl (decide (j < i))) (tCall (sp__law_taken K) [] E0 (tCons (tVar 0) (tCons (tC (.int 3)) tNil))) (tC (.int 0)))))) (tDrop (tBM K "list" rAppend (tVar 3) (tCons (tOp (rIx K) (tVar 3) (tUn (rU fun i => .int (-i)) (tC (.int 1)))) tNil))) (tDrop (tBM K "list" rAppend (tVar 3) (tCons (tOp (rIx K) (tVar 4) (tCall (sp__law_taken K) [] E0 (tCons (tVar 0) (tCons (tCB (rLenU K) (tCons (tVar 4) tNil)) tNil)))) tNil))))))
    (tRet (tVar 3))))
theorem rd__law_row {K : PySem.W.Frag} (vs : List V) (H : Hp) (Q : VK) (E : XK) (h : sp__law_row K vs H Q E) : r__law_row K { nx := fun _ H' => Q .non H', rt := Q } (start ["_law_row_here", "_law_faces_here", "_law_text", "_law_found", "_law_some"] vs) H := by
  obtain ⟨ar, as, sc, vf, vt, fs, t, rfl, ok, hf, ht, fl, tl, k⟩ := h
  have nW : ∀ a, (Rr K ar as sc).W a → a = ar := fun a w => w
  have cl := chosen_len (fs := fs) (t := t)
  have lcd : ((chosen fs t).map natsD).length = (chosen fs t).length := List.length_map ..
  refine q_asgNew (R := Rr K ar as sc) ok fun p H1 hp e1 h1 => ?_
  have pW : ¬ (Rr K ar as sc).W p := notW_of ok hp
  have arH : ∀ {H' : Hp}, (Rr K ar as sc).I H' → H' ar ≠ none := fun o z => by obtain ⟨_, q, _⟩ := (Rr K ar as sc).wt _ ar o rfl; rw [z] at q; cases q
  have nkp : Nk (Rr K ar as sc) (fun a => a = ar ∨ a = p) H1 := ⟨fun a w => .inl w, fun a h z => by
    rcases h with rfl | rfl
    · exact arH e1.ok z
    · rw [h1] at z; cases z⟩
  have ev : Ev (Rr K ar as sc) (tCall (sp__law_every K) [] E0 (tCons (tVar 1) (tCons (tVar 2) tNil))) [some (.ref ar), some vf, some vt, some (.ref p), none] H1 (fun a => a = ar ∨ a = p) (.list ((chosen fs t).map natsD)) := e_call (N := fun a => a = ar) (a_cons (e_var rfl (hf.le e1 nW) nW) (a_one (e_var rfl (ht.le e1 nW) nW)) nW) fun H6 vs e r Q q => by
    cases r with
    | cons r1 r2 => cases r2 with
      | cons r2 r3 =>
        cases r3
        exact ⟨_, _, fs, t, rfl, r1.no, r2.no, by omega, by omega, fun v' H7 e7 r7 => q v' H7 (Le.of_ex e7 e.ok) (by rw [every_parts] at r7; exact r7.weak (nkp.le e).domle)⟩
  refine q_forLe (R := (Rr K ar as sc).plus p) (Re := Rr K ar as sc) (N := fun a => a = ar ∨ a = p) ev e1.ok (fun a w => w) fun H2 e2 => ⟨fun i σ' H' => (∃ a4, σ' = [some (.ref ar), some vf, some vt, some (.ref p), a4]) ∧ Le ((Rr K ar as sc).plus p) H2 H' ∧ Le (Rr K ar as sc) H H' ∧ ∃ (us : List V) (r : List (Option Nat)), H' p = some (.lst us) ∧ DtA No H' (r.map oD) us ∧ Valid ((chosen fs t).take i) r, ⟨⟨none, rfl⟩, Le.refl ⟨e2.ok, pW, _, e2.ext p _ pW h1⟩, e1.trans e2, [], [], e2.ext p _ pW h1, .nil, by rw [List.take_zero]; rfl, fun i c f h => by simp at h⟩, fun i σ' H' q => q.2.1, fun i x v σ' H' hi q r => ?_, fun σ' H' q => ?_⟩
  · obtain ⟨⟨a4, rfl⟩, l2, l0, us, r0, hu, ru, hv⟩ := q
    obtain ⟨c, hc, rfl⟩ := chosen_at hi
    have c8 : c.length ≤ 8 := by
      have := List.mem_of_getElem? hc
      unfold chosen at this
      obtain ⟨q, _, rfl⟩ := List.mem_map.1 this
      have := havP_len fs q
      omega
    have hil : i < (chosen fs t).length := (List.getElem?_eq_some_iff.1 hc).1
    have rl : r0.length = i := by rw [hv.1, List.length_take]; omega
    have ul : us.length < 100000 := by rw [ru.length, List.length_map]; omega
    have rv : Dt (fun a => a = ar) H' (natsD c) v := r.weak fun a h => .inl h
    have evc : ∀ {H3 : Hp}, Le (Rr K ar as sc) H' H3 → Ev (Rr K ar as sc) (tVar 4) [some (.ref ar), some vf, some vt, some (.ref p), some v] H3 (fun a => a = ar) (natsD c) := fun e => e_var rfl (rv.le e nW) nW
    have evp : ∀ {H3 : Hp}, Le (Rr K ar as sc) H' H3 → Ev (Rr K ar as sc) (tVar 3) [some (.ref ar), some vf, some vt, some (.ref p), some v] H3 (fun a => a = ar) (.list (r0.map oD)) := fun e => e_var rfl (Dt.le (Dt.lst (N := fun a => a = ar) pW hu (opts_any ru)) e nW) nW
    have nkA : ∀ {H3 : Hp}, (Rr K ar as sc).I H3 → Nk (Rr K ar as sc) (fun a => a = ar) H3 := fun o => ⟨nW, fun a e z => by rw [e] at z; exact arH o z⟩
    -- one tell more
    have more : ∀ (te : TE) (H3 : Hp), Le (Rr K ar as sc) H' H3 → EvP (Rr K ar as sc) te [some (.ref ar), some vf, some vt, some (.ref p), some v] H3 (fun a => a = ar) (fun d => ∃ f, d = oD f ∧ f ∈ tell c) → tDrop (tBM K "list" rAppend (tVar 3) (tCons te tNil)) { nx := fun σ' H' => (∃ a4, σ' = [some (.ref ar), some vf, some vt, some (.ref p), a4]) ∧ Le ((Rr K ar as sc).plus p) H2 H' ∧ Le (Rr K ar as sc) H H' ∧ ∃ (us : List V) (r : List (Option Nat)), H' p = some (.lst us) ∧ DtA No H' (r.map oD) us ∧ Valid ((chosen fs t).take (i + 1)) r, rt := Q, bk := tRet (tVar 3) { nx := fun _ H' => Q .non H', rt := Q }, ct := fun σ' H' => (∃ a4, σ' = [some (.ref ar), some vf, some vt, some (.ref p), a4]) ∧ Le ((Rr K ar as sc).plus p) H2 H' ∧ Le (Rr K ar as sc) H H' ∧ ∃ (us : List V) (r : List (Option Nat)), H' p = some (.lst us) ∧ DtA No H' (r.map oD) us ∧ Valid ((chosen fs t).take (i + 1)) r } [some (.ref ar), some vf, some vt, some (.ref p), some v] H3 := fun te H3 e3 he => by
      refine s_appP (R := Rr K ar as sc) (N := fun a => a = ar) (i := 3) (p := p) (xs := us) rfl (e3.ext p _ pW hu) pW he e3.ok ul fun d y H5 e5 hd ry h5 => ?_
      obtain ⟨f, rfl, hf⟩ := hd
      have e35 := e3.trans e5
      have l5 := l0.trans e35
      have lp : Le ((Rr K ar as sc).plus p) H5 (upd H5 p (.lst (us ++ [y]))) := (Le.refl (R := (Rr K ar as sc).plus p) (H := H5) ⟨l5.ok, pW, _, h5⟩).setp h5
      refine ⟨⟨_, rfl⟩, (l2.trans (e35.plus pW hu)).setp h5, l5.put hp h5, us ++ [y], r0 ++ [f], upd_same, ?_, by rw [take_snoc hc]; exact valid_snoc hv hf⟩
      have all_ : DtA No H5 ((r0 ++ [f]).map oD) (us ++ [y]) := by
        rw [List.map_append]
        exact DtA.append (opts_any ((opts_any (N' := fun a => a = ar) ru).le e35 nW)) (opts_any (r := [f]) (N := fun a => a = ar) (.cons ry .nil))
      exact opts_any ((opts_any (N' := fun a => (Rr K ar as sc).W a ∨ a = p) all_).le lp fun a w => w)
    have t1 : EvT (Rr K ar as sc) (tTest (tOp (rEqD K) (tVar 4) (tLst tNil))) [some (.ref ar), some vf, some vt, some (.ref p), some v] H' c.isEmpty := t_cmp ((e_eq (N := fun a => a = ar) (d := natsD c) (e := .list []) (evc (Le.refl l0.ok)) (e_lst a_nil (nkA l0.ok) (by decide)) nW (ok_shaped (ok_nats (by omega) 0) (by decide)) shaped_nil).is (by unfold natsD; rw [nats_ints, eqv_empty, List.isEmpty_map]))
    refine s_if (R := Rr K ar as sc) t1 l0.ok (fun z H3 e3 => ?_) (fun z H3 e3 => ?_)
    · refine more _ H3 e3 ((Ev.p e_non).imp fun d hd => ⟨none, hd, ?_⟩)
      rw [List.isEmpty_iff.1 z]
      exact List.mem_singleton.2 rfl
    · have cne : c ≠ [] := fun e => by rw [e] at z; cases z
      have tellc : tell c = c.map some := by unfold tell; rw [if_neg cne]
      have o3 := (l0.trans e3).ok
      have t2 : EvTP (Rr K ar as sc) (tAnd (tTest (tOp (rNeD K) (tVar 3) (tLst tNil))) (tAnd (tTest (tOp (rInU K false) (tOp (rIx K) (tVar 3) (tUn (rU fun i => .int (-i)) (tC (.int 1)))) (tVar 4))) (tTest (tOp (rI0 fun i j => .bl (decide (j < i))) (tCall (sp__law_taken K) [] E0 (tCons (tVar 0) (tCons (tC (.int 3)) tNil))) (tC (.int 0)))))) [some (.ref ar), some vf, some vt, some (.ref p), some v] H3 (fun b => b = true → (!r0.isEmpty) = true ∧ (true = true → decide ((r0.getLast?.getD none) ∈ c.map some) = true ∧ True)) := by
        refine tp_and2 (a := !r0.isEmpty) (φb := fun b => b = true → decide ((r0.getLast?.getD none) ∈ c.map some) = true ∧ True) (t_cmp ((e_ne (N := fun a => a = ar) (d := .list (r0.map oD)) (e := .list []) (evp e3) (e_lst a_nil (nkA o3) (by decide)) nW (ok_shaped (ok_optsR (by omega) 0) (by decide)) shaped_nil).is ?_)) fun ne => ?_
        · cases r0 with
          | nil => rw [List.map_nil, eqv_nil]; rfl
          | cons a l => rw [List.map_cons, PyData.eqv, PyData.eqvAll]; rfl
        · have rne : r0 ≠ [] := fun e => by rw [e] at ne; cases ne
          obtain ⟨q, l, er⟩ : ∃ q l, r0 = q ++ [l] := ⟨_, _, (List.dropLast_concat_getLast rne).symm⟩
          have ev := evp e3
          rw [er, List.map_append] at ev
          rw [er, List.getLast?_concat]
          exact tp_and2 (φb := fun _ => True) (t_cmp (N := No) (e_inO (e_ixn1 ev nW) (evc e3))) fun _ => t_gtZ (N := No) (z_d6 rfl (by decide) (by decide)) e_int
      refine s_ifP (R := Rr K ar as sc) t2 e3.ok (fun b H4 e4 => ?_) (fun _ H4 e4 => ?_)
      · obtain ⟨b1, b2⟩ := b rfl
        have b3 := of_decide_eq_true (b2 rfl).1
        have rne : r0 ≠ [] := fun e => by rw [e] at b1; cases b1
        obtain ⟨q, l, er⟩ : ∃ q l, r0 = q ++ [l] := ⟨_, _, (List.dropLast_concat_getLast rne).symm⟩
        have ev := evp (e3.trans e4)
        rw [er, List.map_append] at ev
        rw [er, List.getLast?_concat] at b3
        exact more _ H4 (e3.trans e4) ((Ev.p (e_ixn1 ev nW)).imp fun d hd => ⟨l, hd, by rw [tellc]; exact b3⟩)
      · have lc : (c.map fun n : Nat => PyData.int (n : Int)).length = c.length := List.length_map ..
        have cpos : 0 < c.length := List.length_pos_iff.2 cne
        refine more _ H4 (e3.trans e4) ((p_ixD (ds := c.map fun n : Nat => PyData.int (n : Int)) (evc (e3.trans e4)) (fun H5 e Q q => z_draw (N := No) (many := (c.length : Nat)) rfl ((e_lenl (N := fun a => a = ar) (N' := No) (ds := c.map fun n : Nat => PyData.int (n : Int)) (evc (e3.trans e4))).is (by rw [lc])) (by omega) (by omega) H5 e Q fun z H6 e6 hz => q z H6 e6 (by rw [lc]; exact hz)) nW).imp fun d hd => ?_)
        obtain ⟨n, hn, rfl⟩ := List.mem_map.1 hd
        exact ⟨some n, rfl, by rw [tellc]; exact List.mem_map.2 ⟨n, hn, rfl⟩⟩
  · obtain ⟨⟨a4, rfl⟩, l2, l0, us, r0, hu, ru, hv⟩ := q
    rw [lcd, List.take_length] at hv
    exact ⟨_, rfl, k r0 _ H' hv l0 (.lst (fun ⟨o, z⟩ => by rw [hp] at z; cases z) hu (opts_any ru))⟩
end FF
set_option Elab.async false
set_option linter.all false
set_option maxRecDepth 100000
set_option maxHeartbeats 4000000
/-! list(reversed(x)), x a list: a new list -/
namespace FF
open PySem PySem.Spec PyProof.Rows L2 RT
section
variable {prog : Program} {w : World} {A : Around} {E : Value → Shared → Prop} {s : Shared}
theorem call_list_rev {it l : Addr} {items : Array Value} {Q : Value → Shared → Prop} (hh : A.handled = none) (hit : s.heap.IsRevIter it l ((items.size : Int) - 1)) (hl : s.heap.IsList l items) (hne : l ≠ it) (hn : items.size ≤ sizeLine)
    (hQ : ∀ (h' : Heap) (tk : Nat) (acc : Array Value) (c : Nat), (∀ b o, b ≠ it → s.heap.get? b = some o → h'.get? b = some o) → h'.get? s.heap.objs.size = some { cls := .type "list", dict := none, data := .seq acc c, slots := #[] } → ItemsOf (fun i v => items[items.size - 1 - i]? = some v) acc items.size →
      Q (.ref s.heap.objs.size) { s with heap := h', toks := tk }) :
    wpAny (model prog w) A (call (.type "list") [.ref it]) Q E s := by
  have W := (Walks.listRev (prog := prog) (w := w) (A := A.in1.in1) hh it l hne items).toS
  obtain ⟨oi, hoi, _⟩ := id hit
  obtain ⟨ol, hol, _⟩ := id hl
  have hSi : s.heap.objs.size ≠ it := Nat.ne_of_gt (Heap.lt_size hoi)
  have hSl : s.heap.objs.size ≠ l := Nat.ne_of_gt (Heap.lt_size hol)
  have hSf : s.heap.objs.size ∉ [it, l] := by simp only [List.mem_cons, List.not_mem_nil, or_false, not_or]; exact ⟨hSi, hSl⟩
  refine callType_codes (Q₁ := fun obj s₁ => obj = .ref s.heap.objs.size ∧ s₁ = { s with heap := s.heap.push { cls := .type "list", data := .seq #[] } }) F.called_list (F.typeCall_list_1 _) F.entry_list_init
    (code_list_new _ ⟨rfl, rfl⟩) fun obj s₁ h₁ => ?_
  obtain ⟨rfl, rfl⟩ := h₁
  have hS : (s.heap.push { cls := .type "list", data := .seq #[] }).get? s.heap.objs.size = some { cls := .type "list", data := .seq #[] } := Heap.get?_push_size _ rfl
  refine ⟨⟨_, hS, rfl⟩, F.args_list_init_2 _ _, ?_⟩
  show wpAny _ A.in1.in1 (do let old ← Builtin.List.listItems (.ref s.heap.objs.size); Builtin.List.listUpdate (.ref s.heap.objs.size) (fun _ => #[]); letGo old.toList.reverse; Builtin.List.listExtendWith (.ref s.heap.objs.size) (.ref it) .none) _ _ _
  refine wpAny_bind ?_
  unfold Builtin.List.listItems
  refine wpAny_bind (wpAny_seqItems hS rfl (wpAny_pure ?_))
  show wpAny _ A.in1.in1 (updateSeq s.heap.objs.size (fun _ => #[]) >>= fun _ => letGo (#[] : Array Value).toList.reverse >>= fun _ => Builtin.List.listExtendWith (.ref s.heap.objs.size) (.ref it) .none) _ _ _
  refine wpAny_bind (wpAny_updateSeq hS rfl ?_)
  have hS2 := Heap.get?_update_self (Obj.mapSeq (fun _ => (#[] : Array Value))) hS rfl
  refine wpAny_bind (wpAny_letGo ?_)
  have k2 : ∀ b o, s.heap.get? b = some o → ((s.heap.push { cls := .type "list", data := .seq #[] }).update s.heap.objs.size (Obj.mapSeq (fun _ => (#[] : Array Value)))).get? b = some o := fun b o e =>
    (Heap.get?_update_other _ _ (Ne.symm (Nat.ne_of_lt (Heap.lt_size e)))).trans (Heap.get?_push_of_some _ e)
  have hit1 := hit.at (h' := ((s.heap.push { cls := .type "list", data := .seq #[] }).update s.heap.objs.size (Obj.mapSeq (fun _ => (#[] : Array Value))))) fun o e => k2 _ o e
  have hl1 : ((s.heap.push { cls := .type "list", data := .seq #[] }).update s.heap.objs.size (Obj.mapSeq (fun _ => (#[] : Array Value)))).IsList l items := let ⟨o, ho, r⟩ := hl; ⟨o, k2 _ o ho, r⟩
  have hT : ({ s with heap := ((s.heap.push { cls := .type "list", data := .seq #[] }).update s.heap.objs.size (Obj.mapSeq (fun _ => (#[] : Array Value)))) } : Shared).TypeIs (.ref it) "list_reverseiterator" := Heap.IsRevIter.typeIs (s := { s with heap := _ }) hit1
  unfold Builtin.List.listExtendWith
  refine wpAny_bind (wpAny_typeOf hT ?_)
  have h1 : Builtin.List.listSameRef (.ref s.heap.objs.size) (.ref it) = false := by simp [Builtin.List.listSameRef, hSi]
  rw [if_neg (by rw [h1]; decide)]
  refine wpAny_bind (wpAny_pyIter_revIter (s := { s with heap := _ }) hit1 ?_)
  refine wpAny_bind (wpAny_holding ?_)
  unfold Builtin.List.listLengthHint
  refine wpAny_bind (wpAny_specialOf hT nolen_lri ?_)
  show wpAny _ A.in1.in1 (specialOf (Value.ref it) (Str.ofString "__length_hint__") >>= _) _ _ _
  refine wpAny_bind (wpAny_specialOf hT hint_lri ?_)
  generalize hid : ("list_reverseiterator.__length_hint__" : String) = id0
  wp_delta
  rw [show splitId id0 = some ("list_reverseiterator", "__length_hint__") from by subst hid; decide +kernel]
  subst hid
  refine wpAny_bind (wpAny_isInstance (b := true) hT (by rw [isSubtype_type]; kernel_rfl) ?_)
  refine wpAny_pure ?_
  rw [if_neg (by decide)]
  have e0 : ((items.size : Nat) : Int) - 1 - ((0 : Nat) : Int) = (items.size : Int) - 1 := by omega
  refine wpAny_pure ⟨plainId_quiet F.plain_extend_loop _, codeAny_extend_loopS W hn _ hSf _ items.size 0 _ _ _ rfl (Nat.zero_le _) ⟨Nat.zero_le _, by rw [e0]; exact hit1, hl1⟩ hS2 (ItemsOf.nil _) fun s' acc' c' hm hS' hacc => ?_⟩
  rw [Moved.eq_with hm]
  refine ⟨rfl, hQ s'.heap s'.toks acc' c' (fun b o hb e => hm.heap b o (fun hmem => ?_) (k2 b o e)) hS' hacc⟩
  rcases List.mem_cons.mp hmem with e' | hmem
  · exact absurd (Heap.lt_size e) (by rw [e']; exact Nat.lt_irrefl _)
  · exact hb (List.mem_singleton.mp hmem)
end
/-- list(reversed(x)), x a list: a new list -/
def tLstRev (K : PySem.W.Frag) (te : TE) : TE := fun σ H Q => te σ H fun v H1 => ∃ (a : Addr) (xs : List V), v = .ref a ∧ SqL K H1 a xs ∧ ∀ q, H1 q = none → Q (.ref q) (upd H1 q (.lst xs.reverse))
section
variable {X : Cx}
theorem pe_lstRev {e : Expr} {te : TE} {p p2 pos pos2 : Pos} (hc : X.calm = true) (hg : Gl X "list") (hm : X.mg "list" = none) (hg2 : Gl X "reversed") (hm2 : X.mg "reversed" = none) (he : PE X e te)
    (hs : starEach [e] X.env = (false, eval e X.env) :: starEach [] X.env := by rfl)
    (hs2 : starEach [.Call (.Name "reversed" p2) [e] [] pos2] X.env = (false, eval (.Call (.Name "reversed" p2) [e] [] pos2) X.env) :: starEach [] X.env := by rfl) :
    PE X (.Call (.Name "list" p) [.Call (.Name "reversed" p2) [e] [] pos2] [] pos) (tLstRev X.K te) := by
  refine ⟨fun pins s σ H Q I h => ?_⟩
  refine Call_ (ld_blt I hg hm (show bootBuiltins "list" = some (.type "list") by decide +kernel) (PyProof.Rows.callWith_type1 (args_cons (Call_ (ld_blt I hg2 hm2 PyProof.Rows.boot_reversed (PyProof.Rows.callWith_type1 (args_cons (thn (he.run pins s σ H _ I h) fun u s1 ⟨v, H1, I1, r1, q1⟩ => args_nil ?_) hs) hs rfl))) hs2) hs2 rfl))
  obtain ⟨a, xs, ev, hq, q⟩ := q1
  subst ev
  obtain rfl : u = Value.ref a := r1
  obtain ⟨its, rv, p', hz⟩ := I1.list hq
  refine call_reversed_list p'.isList (args_nil ?_)
  have k0 : ∀ b o, s1.heap.get? b = some o → (s1.heap.push (revObj a ((its.toArray.size : Int) - 1))).get? b = some o := fun b o e => Heap.get?_push_of_some _ e
  have I2 : Inv X pins σ H1 { s1 with heap := s1.heap.push (revObj a ((its.toArray.size : Int) - 1)) } := I1.kept (t' := s1.toks) k0
  have hfp : FpOk X pins H1 s1.heap.objs.size := I1.fpOk (H' := H1) (b := s1.heap.objs.size) (Nat.le_refl _) (I1.hok.fresh (Nat.le_refl _))
  have hl := p'.isList
  obtain ⟨ol, hol, _⟩ := id hl
  have hne : a ≠ s1.heap.objs.size := Nat.ne_of_lt (Heap.lt_size hol)
  have hn : its.toArray.size ≤ sizeLine := by rw [List.size_toArray, ← rv.length]; exact hz
  refine call_list_rev (s := { s1 with heap := s1.heap.push (revObj a ((its.toArray.size : Int) - 1)) }) (I1.ok.hd hc) ⟨_, Heap.get?_push_size _ rfl, rfl, rfl⟩ (hl.push _) hne hn fun h' tk acc c hk hS hi => ?_
  have hS0 : (s1.heap.push (revObj a ((its.toArray.size : Int) - 1))).objs.size = s1.heap.objs.size + 1 := by first | rfl | simp [Heap.push]
  have hnew : H1 (s1.heap.push (revObj a ((its.toArray.size : Int) - 1))).objs.size = none := I1.hok.fresh (by rw [hS0]; exact Nat.le_succ _)
  refine ⟨.ref (s1.heap.push (revObj a ((its.toArray.size : Int) - 1))).objs.size, upd H1 (s1.heap.push (revObj a ((its.toArray.size : Int) - 1))).objs.size (.lst xs.reverse), I2.turnedNew (t' := tk) (ch := [s1.heap.objs.size]) (fun b o hb e => hk b o (fun z => hb (List.mem_singleton.2 z)) e) (fun b hb => ?_) (Nat.le_refl _) ⟨by rw [List.length_reverse]; exact hz, acc.toList, c, vals_rev rv hi, ?_⟩, rfl, q _ hnew⟩
  · rw [List.mem_singleton.1 hb]
    exact hfp
  · rw [Array.toArray_toList]
    exact hS
end
/-! ### what it evaluates to -/
section
variable {R : Rg} {K : PySem.W.Frag} {σ : L2.St} {H H' : Hp} {N N' : Addr → Prop} {te : TE}
theorem e_listRev {ds : List PyData} (h : Ev R te σ H N (.list ds)) (nk : Nk R N H) : Ev R (tLstRev K te) σ H N (.list ds.reverse) := fun H1 e Q q =>
  h H1 e _ fun v H2 e2 r => by
    obtain ⟨a1, x1, rfl, n1, hl, ra⟩ := r.listy
    refine ⟨_, _, rfl, SqL.of hl, fun p hp => ?_⟩
    obtain ⟨l3, d3⟩ := new_l nk (e.trans e2) hp ra.rev
    exact q _ _ (e2.trans l3) d3
end
end FF
set_option Elab.async false
set_option linter.all false
set_option maxRecDepth 100000
set_option maxHeartbeats 4000000
/-! defs with a known code object; a law whose callees hold generator expressions -/
namespace FF
open PySem PySem.Spec PyProof.Rows L2
open GxR (TabB TabG Tabbed)
/-- a def whose code object stands at c -/
structure FunC (K : PySem.W.Frag) (x qual : Str) (st : Stmt) (f : Addr) (fd : FuncData) (c : Addr) : Prop where
  ex : ∃ (oc : Value) (od : Option Addr) (kV doc pm : Value) (an : Option Addr) (ct : Value) (osl : Array (Option Value)), fd = PySem.W.fnOf x qual (defArgs st) (defBody st) (defScope st) .none kV doc pm an (.ref c) ct ∧ K.lookup f = some ⟨oc, od, .func fd, osl⟩ ∧ PySem.W.codeIn K (.ref c) qual = true
  kp : PySem.W.keepIn K (.ref f) = true
section
variable {P : Program} {w : World} {K : PySem.W.Frag} {mg : Str → Option Value} {base : Heap}
theorem FunC.toFun {x qual : Str} {st : Stmt} {f c : Addr} {fd : FuncData} (F : FunC K x qual st f fd c) : Fun K x qual st f fd :=
  ⟨let ⟨a, b, d, e, g, i, j, l, h⟩ := F.ex; ⟨a, b, d, e, g, i, .ref c, j, l, h⟩, F.kp⟩
theorem FunC.ok {x qual : Str} {st : Stmt} {f c : Addr} {fd : FuncData} {N ps : List Str} {k : Nat} {sp : Sp} (F : FunC K x qual st f fd c) (S : FnScope N ps (defScope st)) (len : ∀ vs H Q E, sp vs H Q E → vs.length = ps.length)
    (body : ∀ (A : Around) (outer : List Env) (s : Shared) (H : Hp) (vs : List V) (Q : VK) (E : XK), Room k (A.deeper (envOfC qual (defScope st) s.heap.objs.size f (.ref c))) → sp vs H Q E →
      ∃ t, PSs (cxOf CX0 P w K mg base N qual (defScope st) f (.ref c) A outer s H E).nox (defBody st) t ∧ t { nx := fun _ H' => Q .non H', rt := Q } (start N vs) H) : FnOk P w K mg base CX0 (k + 1) f fd ps sp := by
  obtain ⟨oc, od, kV, doc, pm, an, ct, osl, rfl, lk, hc⟩ := F.ex
  exact fn_of lk hc S len fun A outer s H vs Q E hr h => let ⟨t, p, q⟩ := body A outer s H vs Q E hr h; ⟨t, p.nox, q⟩
/-- .. that stands at the top -/
structure TopC (K : PySem.W.Frag) (mg : Str → Option Value) (x : Str) (st : Stmt) (c : Addr) : Prop where
  ex : ∃ f fd, mg x = some (.ref f) ∧ FunC K x x st f fd c
theorem TopC.cal {CX : CXT} {x : Str} {st : Stmt} {c : Addr} {k : Nat} {ps : List Str} {sp : Sp} (T : TopC K mg x st c)
    (h : ∀ (kV doc pm : Value) (an : Option Addr) (cdv ct : Value) (us : List Value), us.length = ps.length → bindArgs (PySem.W.fnOf x x (defArgs st) (defBody st) (defScope st) .none kV doc pm an cdv ct) ⟨us, []⟩ = pure (ps.zip us))
    (ok : ∀ f fd, FunC K x x st f fd c → FnOk P w K mg base CX k f fd ps sp) : Cal P w K mg base CX x k ps sp :=
  ⟨let ⟨f, fd, a, F⟩ := T.ex; ⟨f, fd, a, F.kp, F.toFun.binds h, ok f fd F⟩⟩
theorem topc_mk {h : Heap} (X : K.In h) (G : h.Ns mainGlobals mg) {x : Str} {st : Stmt} {f c : Addr} {oc : Value} {od an : Option Addr} {osl : Array (Option Value)} {kV doc pm ct : Value}
    (a : PySem.W.nsIn K mainGlobals x = some (some (.ref f))) (l : K.lookup f = some ⟨oc, od, .func (PySem.W.fnOf x x (defArgs st) (defBody st) (defScope st) .none kV doc pm an (.ref c) ct), osl⟩)
    (cd : PySem.W.codeIn K (.ref c) x = true) (k : PySem.W.keepIn K (.ref f) = true) : TopC K mg x st c := ⟨f, _, PySem.W.mg_of X G a, ⟨⟨oc, od, kV, doc, pm, an, ct, osl, rfl, l, cd⟩, k⟩⟩
end
/-- the script's list, as it stands -/
abbrev scObj (vs : List Value) : Obj := { cls := .type "list", data := .seq vs.toArray }
/-- what is held of the heap when the law is called: the tables, and the script where K doesn't hold it -/
def Hp0 (K : PySem.W.Frag) (tb : List Addr) (a : Addr) (vs : List Value) (ns : List Int) : Hp := fun b => if b ∈ tb then some (.tbl #[]) else if b = a ∧ K.lookup a = none then some (.frz (scObj vs) (.lst (ns.map V.int))) else none
/-- nothing is held but tables and things that stand still -/
def OnlyT (tb : List Addr) (H : Hp) : Prop := ∀ b, H b = none ∨ b ∈ tb ∨ ∃ o xs, H b = some (.frz o (.lst xs))
section
variable {P : Program} {w : World} {K : PySem.W.Frag} {mg mb : Str → Option Value}
theorem hp0_cases {tb : List Addr} {a b : Addr} {vs : List Value} {ns : List Int} {u : HO} (e : Hp0 K tb a vs ns b = some u) : (b ∈ tb ∧ u = .tbl #[]) ∨ (b ∉ tb ∧ b = a ∧ K.lookup a = none ∧ u = .frz (scObj vs) (.lst (ns.map V.int))) := by
  unfold Hp0 at e
  by_cases h : b ∈ tb
  · rw [if_pos h] at e; exact .inl ⟨h, (Option.some.inj e).symm⟩
  · rw [if_neg h] at e
    by_cases g : b = a ∧ K.lookup a = none
    · rw [if_pos g] at e; exact .inr ⟨h, g.1, g.2, (Option.some.inj e).symm⟩
    · rw [if_neg g] at e; cases e
theorem hp0_tab {tb : List Addr} {a b : Addr} {vs : List Value} {ns : List Int} (h : b ∈ tb) : Hp0 K tb a vs ns b = some (.tbl #[]) := if_pos h
theorem call_tabs {CX : CXT} {k : Nat} {fa a : Addr} {cs : List (Addr × Addr)} {fd : FuncData} {x : Str} {sp : Sp} {s₁ : Shared} {vs : List Value} {ns : List Int}
    (KX : K.In s₁.heap) (gl : s₁.heap.Ns mainGlobals mg) (bl : s₁.heap.Ns builtinsNs mb) (bb : ∀ x : Str, x ≠ "__name__" → mb x = bootBuiltins x) (lim : s₁.heap.NoLimit) (g0 : s₁.gens = #[])
    (hT : ∀ p ∈ cs, PySem.W.CodeHd s₁.heap p.1 p.2 ∧ s₁.heap.get? p.2 = some { cls := .none, data := .fields #[] }) (nT : ∀ p ∈ cs, K.lookup p.2 = none)
    (bm : ∃ (m : Addr) (ob : Obj), mg "__builtins__" = some (.ref m) ∧ m ≠ builtinsNs ∧ s₁.heap.get? m = some ob ∧ ob.cls = .type "module" ∧ ob.dict = some builtinsNs ∧ ob.data = .plain)
    (ha : s₁.heap.get? a = some (scObj vs)) (hi : IntsAre vs ns) (hl : ns.length ≤ sizeLine) (hr : Room k callerA)
    (F : ∀ base : Heap, K.In base → base.Ns mainGlobals mg → (∀ p ∈ cs, TabB base mg p.1 p.2) → FnOk P w K mg base CX k fa fd [x] sp) (bind : ∀ (s : Shared) (u : Value), BindsTo s fd ⟨[u], []⟩ [(x, u)])
    (hsp : ∀ H : Hp, OnlyT (cs.map (·.2)) H → (∀ p ∈ cs, H p.2 = some (.tbl #[])) → SqL K H a (ns.map V.int) → sp [.ref a] H (fun v _ => v = .bl true) fun _ _ _ => False)
    (out : ∀ H e s', CX [] H s₁ (fun _ _ _ => False) e s' → False) :
    codeAny (model P w) callerA (.call (.ref fa) ⟨[.ref a], []⟩) (fun r s' => r = .ok (.ret (.bool true)) ∧ OldK s₁.heap s'.heap ∧ s'.os = s₁.os ∧ AllBare s'.gens) s₁ := by
  have rv := vals_ints hi
  generalize hH : Hp0 K (cs.map (·.2)) a vs ns = H
  have tabAt : ∀ b, b ∈ cs.map (·.2) → s₁.heap.get? b = some { cls := .none, data := .fields #[] } := fun b hb => let ⟨p, hp, e⟩ := List.mem_map.1 hb; e ▸ (hT p hp).2
  have inT : ∀ p ∈ cs, p.2 ∈ cs.map (·.2) := fun p hp => List.mem_map_of_mem hp
  have aT : a ∉ cs.map (·.2) := fun z => by
    have q := tabAt a z
    rw [ha] at q
    cases q
  have cases_ : ∀ b u, H b = some u → (b ∈ cs.map (·.2) ∧ u = .tbl #[]) ∨ (b ∉ cs.map (·.2) ∧ b = a ∧ K.lookup a = none ∧ u = .frz (scObj vs) (.lst (ns.map V.int))) := fun b u e => hp0_cases (by rw [hH]; exact e)
  have tabH : ∀ p ∈ cs, H p.2 = some (.tbl #[]) := fun p hp => by rw [← hH]; exact hp0_tab (inT p hp)
  have only : OnlyT (cs.map (·.2)) H := fun b => by
    cases q : H b with
    | none => exact .inl rfl
    | some u => rcases cases_ b u q with z | ⟨_, _, _, z⟩
                · exact .inr (.inl z.1)
                · exact .inr (.inr ⟨_, _, by rw [z]⟩)
  -- what is no list and no empty table is not held
  have unheld : ∀ {b : Addr} {o : Obj}, s₁.heap.get? b = some o → o ≠ { cls := .none, data := .fields #[] } → o ≠ scObj vs → H b = none := fun {b o} e n1 n2 => by
    cases q : H b with
    | none => rfl
    | some u => rcases cases_ b u q with z | ⟨_, z, _, _⟩
                · have := tabAt b z.1
                  rw [e] at this
                  exact absurd (Option.some.inj this) n1
                · rw [z, ha] at e
                  exact absurd (Option.some.inj e).symm n2
  have ofDict : ∀ {b : Addr} {o : Obj} {es : Array DictEntry} {ep : Nat}, s₁.heap.get? b = some o → o.data = .dict es ep → H b = none := fun {b o es ep} e d => unheld e (fun z => by rw [z] at d; cases d) (fun z => by rw [z] at d; cases d)
  have toB : ∀ {b : Addr} {o : Obj}, s₁.heap.get? b = some o → H b = none → (hidT s₁.heap H).get? b = some o := fun e n => hidT_get e n
  have ns_ : ∀ {b : Addr} {m : Str → Option Value}, s₁.heap.Ns b m → (hidT s₁.heap H).Ns b m := fun {b m} ⟨o, es, ep, e, d, r⟩ => ⟨o, es, ep, toB e (ofDict e d), d, r⟩
  have kin : K.In (hidT s₁.heap H) := fun b o e => toB (KX b o e) (by
    cases q : H b with
    | none => rfl
    | some u => rcases cases_ b u q with z | ⟨_, z, y, _⟩
                · obtain ⟨p, hp, ep⟩ := List.mem_map.1 z.1
                  rw [← ep, nT p hp] at e
                  cases e
                · rw [z, y] at e
                  cases e)
  have md : L2.Mod K mg (hidT s₁.heap H) := ⟨kin, ns_ gl, ⟨mb, ns_ bl, bb⟩, let ⟨mc, q1, q2⟩ := lim; ⟨mc, ns_ q1, q2⟩⟩
  have tb : ∀ p ∈ cs, TabB (hidT s₁.heap H) mg p.1 p.2 := fun p hp => by
    obtain ⟨C, hP⟩ := hT p hp
    refine ⟨?_, ?_, fun z => ?_⟩
    · obtain ⟨o, us, file, tf, flags, tg, inF, text, tt, e1, r1, r2, r3, rest⟩ := C
      refine ⟨o, us, file, tf, flags, tg, inF, text, tt, toB e1 (unheld e1 (fun z => by rw [z] at r1; cases r1) (fun z => by rw [z] at r2; cases r2)), r1, r2, r3, rest⟩
    · obtain ⟨m, ob, b1, b2, b3, b4, b5, b6⟩ := bm
      refine ⟨m, ob, b1, b2, fun q => ?_, fun q => ?_, toB b3 (unheld b3 (fun z => by rw [z] at b6; cases b6) (fun z => by rw [z] at b6; cases b6)), b4, b5, b6⟩
      · obtain ⟨o, es, ep, e, hd, _⟩ := gl
        rw [q, e] at b3
        cases b3
        rw [hd] at b6
        cases b6
      · rw [q, hP] at b3
        cases b3
        cases b6
    · obtain ⟨o, es, ep, e, hd, _⟩ := gl
      rw [z, hP] at e
      cases e
      cases hd
  have hok : HOk P w H s₁.heap := fun b u e => by
    rcases cases_ b u e with ⟨z1, rfl⟩ | ⟨_, rfl, _, rfl⟩
    · exact tabAt b z1
    · exact ⟨ha, by rw [List.length_map]; exact hl, vs, _, rv, ha⟩
  have sq : SqL K H a (ns.map V.int) := by
    cases hk : K.lookup a with
    | some o =>
      have e := KX a o hk
      rw [ha] at e
      cases e
      exact .inr ⟨_, vs.toArray, _, hk, rfl, rfl, rfl, by rw [List.size_toArray, hi.length]; exact hl, by simpa using rv⟩
    | none =>
      refine .inl (.inr ⟨scObj vs, ?_⟩)
      rw [← hH]
      unfold Hp0
      rw [if_neg aT, if_pos ⟨rfl, hk⟩]
  have e0 : Env0 P w K mg (hidT s₁.heap H) callerA [] s₁ H := ⟨rfl, md, fun b o e => of_hidT e, Nat.le_of_eq (hidT_size _ _), trivial, fun b hb => absurd (show b ∈ ([] : List Addr) from hb) (by simp), hok, .of_eq g0⟩
  refine codeAny_mono ((F _ kin (ns_ gl) tb).run callerA [] s₁ H ⟨[.ref a], []⟩ [.ref a] [.ref a] _ _ hr e0 (bind s₁ (.ref a)) (.cons rfl .nil) (hsp H only tabH sq)) fun r s' h => ?_
  match r, h with
  | .error e, h => exact (out H e s' h).elim
  | .ok .next, h => exact False.elim h
  | .ok .brk, h => exact False.elim h
  | .ok .cont, h => exact False.elim h
  | .ok (.ret u), ⟨v, H', os, bare, un, hok', r', (q' : v = .bl true)⟩ =>
    subst q'
    obtain rfl : u = Value.bool true := r'
    have stays : ∀ b o, b ∉ cs.map (·.2) → s₁.heap.get? b = some o → s'.heap.get? b = some o := fun b o nb e => by
      rcases only b with z | z | ⟨ob, xs, z⟩
      · exact un.keep b o e z (fun y => absurd (show b ∈ ([] : List Addr) from y) (by simp)) (by simp)
      · exact absurd z nb
      · have z1 := (hok b _ z).1
        rw [e] at z1
        cases z1
        exact (hok' b _ (un.frzs b _ _ z)).1
    have grew : ∀ b, b ∈ cs.map (·.2) → ∃ more : Array Value, s'.heap.get? b = some { cls := .none, data := .fields more } := fun b hb => by
      obtain ⟨p, hp, ep⟩ := List.mem_map.1 hb
      obtain ⟨more, z⟩ := un.tbls p.2 #[] (tabH p hp)
      exact ⟨_, ep ▸ hok' p.2 _ z⟩
    refine ⟨rfl, ⟨fun b o e => ?_, fun b o e => ?_⟩, os, bare⟩
    · by_cases hb : b ∈ cs.map (·.2)
      · obtain ⟨more, hm⟩ := grew b hb
        obtain ⟨p, hp, ep⟩ := List.mem_map.1 hb
        have e2 := tabAt b hb
        rw [e] at e2
        cases e2
        have ct := ((hT p hp).1.tab (hT p hp).2).isCodeTable
        rw [ep] at ct
        exact .inr (.inl ⟨ct, rfl, #[], more, rfl, by rw [Array.empty_append]; exact hm⟩)
      · exact .inl (stays b o hb e)
    · by_cases hb : b ∈ cs.map (·.2)
      · obtain ⟨more, hm⟩ := grew b hb
        exact ⟨_, hm⟩
      · exact ⟨o, stays b o hb e⟩
end
end FF
set_option Elab.async false
set_option linter.all false
set_option maxRecDepth 100000
set_option maxHeartbeats 4000000
/-! what the program's functions tell a law; loops from the other end -/
namespace FF
open PySem PySem.Spec PyProof.Rows L2 RT
section
variable {K : PySem.W.Frag} {C ar as : Addr} {sc : List Int} {T : List Addr} {H : Hp} {σ : L2.St} {N : Addr → Prop} {te tw : TE} {i : Nat} {cx : Addr} {fs : List Face} {t : List Int} {D : Ends} {tz : TS}
theorem lw_sub : ∀ a, (Rl K ar as sc T).W a → Wl ar T a := fun a w => w
theorem ev_choices (hσ : σ[i]? = some (some (.ref cx))) (hc : CaseAt (Wl ar T) C H cx fs) (ht : Ev (Rl K ar as sc T) te σ H (Wl ar T) (.list (t.map .int))) (fl : fs.length ≤ 8) (tl : t.length ≤ 1000) (hb : badAt t = none) (nk : Nk (Rl K ar as sc T) N H) : Ev (Rl K ar as sc T) (tCall (sp_choices C T) [] E0 (tCons (tVar i) (tCons te tNil))) σ H N (chosenD (chosen fs t)) := fun H1 e Q q =>
  ⟨_, hσ, ht H1 e _ fun v H2 e2 r => ⟨cx, v, fs, t, rfl, (hc.le (e.trans e2) lw_sub).weak (fun a z => z.elim), r.no, by omega, tl, hb, e2.ok.2, fun u H3 e3 ru => q u H3 (e2.trans (e3.rt e2.ok.1)) (ru.weak (nk.le (e.trans e2)).domle)⟩⟩
theorem ev_shown (hσ : σ[i]? = some (some (.ref cx))) (hc : CaseAt (Wl ar T) C H cx fs) (ht : Ev (Rl K ar as sc T) te σ H (Wl ar T) (.list (t.map .int))) (fl : fs.length ≤ 8) (tl : t.length ≤ 1000) (hb : badAt t = none) (nk : Nk (Rl K ar as sc T) N H) : Ev (Rl K ar as sc T) (tCall (sp_shown C T) [] E0 (tCons (tVar i) (tCons te tNil))) σ H N (rowD (shownP fs t)) := fun H1 e Q q =>
  ⟨_, hσ, ht H1 e _ fun v H2 e2 r => ⟨cx, v, fs, t, rfl, (hc.le (e.trans e2) lw_sub).weak (fun a z => z.elim), r.no, by omega, tl, hb, e2.ok.2, fun u H3 e3 ru => q u H3 (e2.trans (e3.rt e2.ok.1)) (ru.weak (nk.le (e.trans e2)).domle)⟩⟩
theorem ev_missing (hσ : σ[i]? = some (some (.ref cx))) (hc : CaseAt (Wl ar T) C H cx fs) (ht : Ev (Rl K ar as sc T) te σ H (Wl ar T) (.list (t.map .int))) (fl : fs.length ≤ 8) (tl : t.length ≤ 1000) (hb : badAt t = none) (nk : Nk (Rl K ar as sc T) N H) : EvP (Rl K ar as sc T) (tCall (sp_missing C T) [] E0 (tCons (tVar i) (tCons te tNil))) σ H N (fun d => ∃ ns : List Int, d = .list (ns.map .int) ∧ ns.Pairwise (· < ·) ∧ ∀ z : Int, z ∈ ns ↔ z ∈ t ∧ havP fs [z] = []) := fun H1 e Q q =>
  ⟨_, hσ, ht H1 e _ fun v H2 e2 r => ⟨cx, v, fs, t, rfl, (hc.le (e.trans e2) lw_sub).weak (fun a z => z.elim), r.no, by omega, tl, hb, e2.ok.2, fun u H3 ns e3 p1 p2 ru => q _ u H3 (e2.trans (e3.rt e2.ok.1)) ⟨ns, rfl, p1, p2⟩ (ru.weak (nk.le (e.trans e2)).domle)⟩⟩
theorem ev_reason (hσ : σ[i]? = some (some (.ref cx))) (hc : CaseAt (Wl ar T) C H cx fs) (ht : Ev (Rl K ar as sc T) te σ H (Wl ar T) (.list (t.map .int))) (fl : fs.length ≤ 8) (tl : t.length ≤ 1000) (hb : badAt t = none) (nk : Nk (Rl K ar as sc T) N H) : EvP (Rl K ar as sc T) (tCall (sp_reason C T) [] E0 (tCons (tVar i) (tCons te tNil))) σ H N (fun d => ∃ (f : Nat) (sts : List (Int × Int)), Greedy (chosen fs t) (chosen fs t).length f sts ∧ sts.length ≤ (chosen fs t).length ∧ d = .list (sts.map sD)) := fun H1 e Q q =>
  ⟨_, hσ, ht H1 e _ fun v H2 e2 r => ⟨cx, v, fs, t, rfl, (hc.le (e.trans e2) lw_sub).weak (fun a z => z.elim), r.no, by omega, tl, hb, e2.ok.2, fun f sts u H3 g sl e3 ru => q _ u H3 (e2.trans (e3.rt e2.ok.1)) ⟨f, sts, g, sl, rfl⟩ (ru.weak (nk.le (e.trans e2)).domle)⟩⟩
theorem ev_holds {N' : Addr → Prop} {sts : List (Int × Int)} (hσ : σ[i]? = some (some (.ref cx))) (hc : CaseAt (Wl ar T) C H cx fs) (ht : Ev (Rl K ar as sc T) te σ H (Wl ar T) (.list (t.map .int))) (hs : Ev (Rl K ar as sc T) tw σ H N' (.list (sts.map sD))) (fl : fs.length ≤ 8) (tl : t.length ≤ 1000) (sl : sts.length ≤ 1000) (hb : badAt t = none) : Ev (Rl K ar as sc T) (tCall (sp_holds C T) [] E0 (tCons (tVar i) (tCons te (tCons tw tNil)))) σ H N (.bool (holdsP (chosen fs t) 0 sts)) := fun H1 e Q q =>
  ⟨_, hσ, ht H1 e _ fun v H2 e2 r => hs H2 (e.trans e2) _ fun w H3 e3 rw_ => ⟨cx, v, w, fs, t, sts, rfl, (hc.le ((e.trans e2).trans e3) lw_sub).weak (fun a z => z.elim), (r.le e3 lw_sub).no, rw_.no, by omega, tl, sl, hb, e3.ok.2, fun H4 e4 => q _ H4 ((e2.trans e3).trans (e4.rt e3.ok.1)) (.bl _)⟩⟩
theorem ev_changes {N' : Addr → Prop} {r : List (Option Nat)} (hr : Ev (Rl K ar as sc T) te σ H N' (rowD r)) (rl : r.length ≤ 1000) : Ev (Rl K ar as sc T) (tCall sp_changes [] E0 (tCons te tNil)) σ H N (.int (chg r : Nat)) := fun H1 e Q q =>
  hr H1 e _ fun v H2 e2 rv => ⟨v, r, rfl, rv.no, rl, fun H3 e3 => q _ H3 (e2.trans (e3.r0l e2.ok)) (.int _)⟩
theorem ev_parted {N' : Addr → Prop} (ht : Ev (Rl K ar as sc T) te σ H N' (.list (t.map .int))) (tl : t.length ≤ 1000) (hb : badAt t = none) (nk : Nk (Rl K ar as sc T) N H) : Ev (Rl K ar as sc T) (tCall sp_partedN [] E0 (tCons te tNil)) σ H N (.list ((partsI t).map fun c => .tuple (c.map .int))) := fun H1 e Q q =>
  ht H1 e _ fun v H2 e2 rv => ⟨v, t, rfl, rv.no, by omega, hb, fun u H3 e3 ru => q u H3 (e2.trans (e3.r0l e2.ok)) (ru.weak (nk.le (e.trans e2)).domle)⟩
/-- the law's own: for each cluster the faces that have all its signs -/
theorem ev_every {N1 N2 : Addr → Prop} {tf : TE} (hf : Ev (Rl K ar as sc T) tf σ H (Wl ar T) (facesD fs)) (ht : Ev (Rl K ar as sc T) te σ H N2 (.list (t.map .int))) (fl : fs.length ≤ 8) (tl : t.length ≤ 1000) (nk : Nk (Rl K ar as sc T) N H) : Ev (Rl K ar as sc T) (tCall (sp__law_every K) [] E0 (tCons tf (tCons te tNil))) σ H N (chosenD (chosen fs t)) := fun H1 e Q q =>
  hf H1 e _ fun v H2 e2 rv => ht H2 (e.trans e2) _ fun w H3 e3 rw_ => ⟨v, w, fs, t, rfl, (rv.le e3 lw_sub).no, rw_.no, by omega, tl, fun u H4 e4 ru => q u H4 ((e2.trans e3).trans (Le.of_ex e4 e3.ok)) (by rw [every_parts] at ru; exact ru.weak (nk.le ((e.trans e2).trans e3)).domle)⟩
/-- pool, faces, text drawn -/
theorem q_drawn {i3 i4 i5 : Nat} {most many : Int} (h1 : σ[1]? = some (some (.ref ar))) (h3 : 1 < i3) (h4 : i3 < i4) (h5 : i4 < i5) (hl : i5 < σ.length) (ok : (Rl K ar as sc T).I H) (m1 : 1 ≤ most ∧ most ≤ 8) (m2 : 0 ≤ many ∧ many ≤ 100)
    (q : ∀ ls ms fs t vp vf vt H4, PoolOk ls ms → FacesOk fs → SignsOk t → Le (Rl K ar as sc T) H H4 → (∃ a, vt = .ref a ∧ H a = none ∧ H4 a = some (.lst (t.map .int)) ∧ Dt (fun x => x = a ∨ Wl ar T x) H4 (poolD ls ms) vp ∧ Dt (fun x => x = a ∨ Wl ar T x) H4 (facesD fs) vf) → tz D (((σ.set i3 (some vp)).set i4 (some vf)).set i5 (some vt)) H4) :
    tSeq (tAsg (tCall (sp__law_pool K) [] E0 (tCons (tVar 1) tNil)) (gName i3))
    (tSeq (tAsg (tCall (sp__law_faces K) [] E0 (tCons (tVar 1) (tCons (tVar i3) (tCons (tC (.int most)) tNil)))) (gName i4))
    (tSeq (tAsg (tCall (sp__law_signs K) [] E0 (tCons (tVar 1) (tCons (tVar i3) (tCons (tC (.int many)) tNil)))) (gName i5)) tz)) D σ H := by
  refine ⟨_, h1, ar, as, sc, rfl, ok.1, fun ls ms vp H2 pok e2 r2 => ?_⟩
  have e2' : Le (Rl K ar as sc T) H H2 := e2.rr ok.2
  have sub1 : ∀ a, a = ar → Wl ar T a := fun a z => .inl z
  have rp2 : Dt (Wl ar T) H2 (poolD ls ms) vp := r2.weak (wl_dom ok)
  refine ⟨_, by rw [List.getElem?_set_ne (by omega)]; exact h1, _, by rw [List.getElem?_set_self (by omega)], ar, as, sc, vp, ls, ms, most, rfl, e2'.ok.1, pok, rp2.weak sub1, m1.1, m1.2, fun fs vf H3 fok e3 r3 => ?_⟩
  have e3' : Le (Rl K ar as sc T) H2 H3 := e3.rr e2'.ok.2
  refine ⟨_, by rw [List.getElem?_set_ne (by omega), List.getElem?_set_ne (by omega)]; exact h1, _, by rw [List.getElem?_set_ne (by omega), List.getElem?_set_self (by omega)], ar, as, sc, vp, ls, ms, many, rfl, e3'.ok.1, pok, (rp2.le e3' lw_sub).weak sub1, m2.1, m2.2, fun t vt H4 tok e4 r4 => ?_⟩
  have e4' : Le (Rl K ar as sc T) H3 H4 := e4.rr e3'.ok.2
  obtain ⟨a, xs, rfl, na, ha, ra⟩ := r4.listy
  have aN : H3 a = none := by
    cases z : H3 a with
    | none => rfl
    | some o => exact absurd ⟨o, z⟩ na
  rw [ra.ints] at ha
  have subm : ∀ x, (Rl K ar as sc T).W x → (x = a ∨ Wl ar T x) := fun x w => .inr w
  have rf3 : Dt (Wl ar T) H3 (facesD fs) vf := r3.weak (wl_dom e2'.ok)
  exact q ls ms fs t vp vf _ H4 pok fok tok ((e2'.trans e3').trans e4') ⟨a, rfl, e2'.back a (e3'.back a aN), ha, ((rp2.le e3' lw_sub).more aN).le e4' subm, (rf3.more aN).le e4' subm⟩
end
section
variable {R : Rg} {K : PySem.W.Frag} {σ : L2.St} {H : Hp} {N : Addr → Prop} {D : Ends} {te : TE} {tu tz : TS}
theorem rev_ix {α : Type} {l : List α} {i : Nat} {x : α} (hi : i < l.length) (h : l[l.length - 1 - i]? = some x) : l.reverse[i]? = some x := by
  rw [List.getElem?_reverse hi]
  exact h
/-- for x in reversed(a list that an expression gives) -/
theorem q_forRev {Re : Rg} {j : Nat} {ds : List PyData} (h : Ev Re te σ H N (.list ds)) (ok : Re.I H) (sub : ∀ a, R.W a → N a)
    (q : ∀ H1, Le Re H H1 → ∃ Pv : Nat → L2.St → Hp → Prop, Pv 0 σ H1 ∧ (∀ i σ' H', Pv i σ' H' → Le R H1 H') ∧
      (∀ i x v σ' H', ds.reverse[i]? = some x → Pv i σ' H' → Dt N H' x v → tu { D with nx := Pv (i + 1), ct := Pv (i + 1), bk := tz D } (σ'.set j (some v)) H') ∧ ∀ σ' H', Pv ds.length σ' H' → tz D σ' H') : tSeq (tFor (iRevA K te) (gName j) tu) tz D σ H := by
  refine h H (Le.refl ok) _ fun v H1 e1 r => ?_
  obtain ⟨a, xs, rfl, na, hl, ra⟩ := r.listy
  have naW : ¬ R.W a := fun w => na (sub a w)
  obtain ⟨Pv, h0, hle, hs, hd⟩ := q H1 e1
  refine ⟨a, xs, rfl, .inl ⟨SqL.of hl, for_Itv (D := { D with nx := tz D }) (xs := xs) Pv h0 (fun i σ' H' p => SqL.of ((hle i σ' H' p).ext a _ naW hl)) (fun i x σ' H' hi hx p => ?_) (fun σ' H' p => ?_)⟩⟩
  · obtain ⟨dx, hdx, rx⟩ := ra.getV hx
    rw [ra.length] at hdx hi
    exact hs i dx x σ' H' (rev_ix hi hdx) p (rx.le (hle i σ' H' p) sub)
  · rw [ra.length] at p
    exact hd σ' H' p
/-- a comprehension over reversed(a list) -/
theorem p_lcRev {tl : TE} {g : TG} {t : TT} {vs : List Nat} {ds : List PyData} (T : Nat → Option PyData → Prop) {N0 : Addr → Prop} (h : Ev R tl σ H N0 (.list ds)) (s0 : ∀ a, R.W a → N0 a) (hz : ds.length ≤ 40000) (nk : Nk R N H)
    (ht : ∀ (i : Nat) (x : PyData) (v : V) D H1, H D = none → Le R H H1 → Nk R (fun a => a = D ∨ N a) H1 → ds.reverse[i]? = some x → Dt (fun a => a = D ∨ N0 a) H1 x v →
      ∃ σ2, (∀ Qs : L2.St → Hp → Prop, Qs σ2 H1 → g v (wipe σ vs) H1 Qs) ∧ wipe σ2 vs = wipe σ vs ∧ EvF R t te σ2 H1 (fun a => a = D ∨ N a) (T i)) :
    EvP R (tLc (iRevA K tl) g t te vs) σ H N (Out ds.length T) := fun H0 e Q q => h H0 e _ fun v H1 e1 r => by
  obtain ⟨a, xs, rfl, na, hl, ra⟩ := r.listy
  refine ⟨a, xs, rfl, .inl ⟨SqL.of hl, fun D hD => ?_⟩⟩
  have e01 := e.trans e1
  have naW : ¬ R.W a := fun w => na (s0 a w)
  refine lc_it walk_rev (Lw R H1 N T D) (lw_start e1.ok hD) (fun i H' _ p => SqL.of (p.1.ext a _ naW hl)) (fun i x H' H'' hi p y => ?_) (fun H' p => ?_)
  · obtain ⟨rfl, hx⟩ := y
    have p' := p
    obtain ⟨le', os, vs', _, _, h1, _⟩ := p'
    obtain ⟨dx, hdx, rx⟩ := ra.getV hx
    rw [ra.length] at hdx hi
    obtain ⟨σ2, hg, hw, hF⟩ := ht i dx x D H'' (e01.back D hD) (e01.trans le') (nk_more (nk.le e01) le' h1) (rev_ix hi hdx) ((rx.more hD).le le' fun b w => .inr (s0 b w))
    exact hg _ ⟨hw, lw_turn (nk.le e01) hD p (by omega) hF⟩
  · rw [ra.length] at p
    obtain ⟨d, o, le', r⟩ := lw_end (nk.le e01) hD p
    exact q d _ H' (e1.trans le') o r
end
theorem e_notTrue {R : Rg} {σ : L2.St} {H : Hp} {N : Addr → Prop} {te : TE} {b : Bool} (h : Ev R te σ H N (.bool b)) : Ev R (tOp rNotBl te (tC (.bl true))) σ H N (.bool (!decide (b = true))) := fun H1 e Q q => h H1 e _ fun v H2 e2 r => by
  cases r
  exact ⟨b, true, rfl, rfl, q _ H2 e2 (.bl _)⟩
end FF
set_option Elab.async false
set_option linter.all false
set_option maxRecDepth 100000
set_option maxHeartbeats 4000000
/-! the mathematics: rows and clusters from the other end -/
namespace FF
open PySem PySem.Spec PyProof.Rows L2
theorem chg_two (a b : Option Nat) (r : List (Option Nat)) : chg (a :: b :: r) = (if a = b then 0 else 1) + chg (b :: r) := by
  unfold chg
  show ((List.range (r.length + 1)).filter _).length = _ + ((List.range r.length).filter _).length
  rw [List.range_succ_eq_map, List.filter_cons, List.filter_map]
  have e : (fun i => !decide ((a :: b :: r).getD i none = (a :: b :: r).getD (i + 1) none)) ∘ Nat.succ = fun i => !decide ((b :: r).getD i none = (b :: r).getD (i + 1) none) := rfl
  rw [e]
  show (if (!decide (a = b)) = true then _ else _ : List Nat).length = _
  by_cases c : a = b
  · rw [if_neg (by simp [c]), if_pos c, List.length_map, Nat.zero_add]
  · rw [if_pos (by simp [c]), if_neg c, List.length_cons, List.length_map, Nat.add_comm]
theorem chg_rev : ∀ r : List (Option Nat), chg r.reverse = chg r
  | [] => rfl
  | [a] => rfl
  | a :: b :: r => by
    have ih := chg_rev (b :: r)
    have s := chg_snoc (b :: r).reverse a
    rw [List.reverse_cons, chg_two]
    have u : unlike (b :: r).reverse a = !decide (a = b) := by
      unfold unlike
      rw [List.reverse_cons, List.getLast?_concat]
      have : (r.reverse ++ [b]).isEmpty = false := by cases r.reverse <;> rfl
      rw [this]
      exact congrArg (!·) (decide_eq_decide.2 ⟨fun e => (Option.some.inj e).symm, fun e => by rw [e]⟩)
    rw [u, ih] at s
    by_cases c : a = b
    · rw [decide_eq_true c] at s
      rw [if_pos c]
      have : b2n (!true) = 0 := rfl
      omega
    · rw [decide_eq_false c] at s
      rw [if_neg c]
      have : b2n (!false) = 1 := rfl
      omega
theorem valid_rev {cs : List (List Nat)} {r : List (Option Nat)} (h : Valid cs r) : Valid cs.reverse r.reverse := by
  refine ⟨by rw [List.length_reverse, List.length_reverse, h.1], fun i c f h1 h2 => ?_⟩
  have hi := (List.getElem?_eq_some_iff.1 h1).1
  rw [List.length_reverse] at hi
  rw [List.getElem?_reverse hi] at h1
  rw [List.getElem?_reverse (by rw [h.1]; exact hi), h.1] at h2
  exact h.2 _ c f h1 h2
theorem foldl_add (l : List Int) : ∀ a : Int, l.foldl (· + ·) a = a + l.foldl (· + ·) 0 := by
  induction l with
  | nil => intro a; show a = a + 0; omega
  | cons b l ih => intro a; rw [List.foldl_cons, List.foldl_cons, ih (a + b), ih (0 + b)]; omega
theorem rowK_cons (ranks : List Int) (f : Option Nat) (r : List (Option Nat)) : rowK ranks (f :: r) = rkOf ranks f + rowK ranks r := by
  unfold rowK
  rw [List.map_cons, List.foldl_cons, foldl_add]
  omega
theorem rowK_rev (ranks : List Int) : ∀ r : List (Option Nat), rowK ranks r.reverse = rowK ranks r
  | [] => rfl
  | a :: r => by rw [List.reverse_cons, rowK_snoc, rowK_cons, rowK_rev ranks r]; omega
theorem rowM_none : ∀ (r : List (Option Nat)) (n : Nat), rowM r (List.replicate n none) = 0
  | [], n => by cases n <;> rfl
  | f :: r, 0 => rfl
  | f :: r, n + 1 => by
    show b2n (f.isSome && wants f none) + rowM r (List.replicate n none) = 0
    rw [rowM_none r n]
    have : (f.isSome && wants f none) = false := by cases f <;> rfl
    rw [this]
    rfl
/-- what is shown costs no more than any row -/
theorem shown_least {fs : List Face} {t : List Int} {r : List (Option Nat)} (hr : Valid (chosen fs t) r) : chg (shownP fs t) < chg r ∨ (chg (shownP fs t) = chg r ∧ rowK (fs.map (·.rank)) (shownP fs t) ≤ rowK (fs.map (·.rank)) r) := by
  obtain ⟨c1, c2, c3, hm⟩ := best3_min (fs.map (·.rank)) ((chosen fs t).zip (List.replicate (chosen fs t).length none))
  have e1 : ((chosen fs t).zip (List.replicate (chosen fs t).length (none : Option Nat))).map (·.1) = chosen fs t := List.map_fst_zip (by rw [List.length_replicate]; exact Nat.le_refl _)
  have e2 : ((chosen fs t).zip (List.replicate (chosen fs t).length (none : Option Nat))).map (·.2) = List.replicate (chosen fs t).length none := List.map_snd_zip (by rw [List.length_replicate]; exact Nat.le_refl _)
  rw [e1, e2] at hm
  rw [e2, rowM_none] at c2
  have h := hm r hr
  rw [c1, c2, c3, rowM_none] at h
  unfold le3 at h
  have es : shownP fs t = (bestP (fs.map (·.rank)) ((chosen fs t).zip (List.replicate (chosen fs t).length none))).row := rfl
  rw [es]
  omega
/-- the same clusters from the other end: as many changes, ranks of the same sum -/
theorem shown_turned {fs : List Face} {t u : List Int} (h : chosen fs u = (chosen fs t).reverse) : chg (shownP fs u) = chg (shownP fs t) ∧ rowK (fs.map (·.rank)) (shownP fs u) = rowK (fs.map (·.rank)) (shownP fs t) := by
  have h1 := shown_least (fs := fs) (t := u) (r := (shownP fs t).reverse) (by rw [h]; exact valid_rev (shown_valid fs t))
  have h2 := shown_least (fs := fs) (t := t) (r := (shownP fs u).reverse) (by
    have := valid_rev (shown_valid fs u)
    rw [h, List.reverse_reverse] at this
    exact this)
  rw [chg_rev, rowK_rev] at h1 h2
  omega
theorem torn_rev (S : List (List Nat)) : tornP S.reverse = tornP S := by
  have key : ∀ S : List (List Nat), tornP S = false ↔ ∃ x, ∀ c ∈ S, x ∈ tell c := fun S => by
    refine ⟨whole, fun ⟨x, hx⟩ => ?_⟩
    unfold tornP
    by_cases c1 : S.any (fun fs => !fs.isEmpty) = true
    · rw [c1, Bool.true_and]
      obtain ⟨c, hc, hne⟩ := List.any_eq_true.1 c1
      have cne : c ≠ [] := fun e => by rw [e] at hne; cases hne
      have h1 := hx c hc
      unfold tell at h1
      rw [if_neg cne] at h1
      obtain ⟨g, hg, rfl⟩ := List.mem_map.1 h1
      have inall : ∀ c' ∈ S, g ∈ c' := fun c' hc' => by
        have := hx c' hc'
        unfold tell at this
        split at this
        · cases List.mem_singleton.1 this
        · obtain ⟨g', hg', e⟩ := List.mem_map.1 this
          cases e
          exact hg'
      cases S with
      | nil => cases hc
      | cons hd tl =>
        have : g ∈ ((hd :: tl).headD []).filter (inAll (hd :: tl)) := List.mem_filter.2 ⟨inall hd (List.mem_cons_self ..), List.all_eq_true.2 fun c' hc' => decide_eq_true (inall c' hc')⟩
        cases e : ((hd :: tl).headD []).filter (inAll (hd :: tl)) with
        | nil => rw [e] at this; cases this
        | cons a l => rfl
    · rw [Bool.eq_false_iff.2 c1, Bool.false_and]
  cases e : tornP S with
  | false =>
    obtain ⟨x, hx⟩ := (key S).1 e
    exact (key _).2 ⟨x, fun c hc => hx c (List.mem_reverse.1 hc)⟩
  | true =>
    cases e2 : tornP S.reverse with
    | true => rfl
    | false =>
      obtain ⟨x, hx⟩ := (key _).1 e2
      have := (key S).2 ⟨x, fun c hc => hx c (List.mem_reverse.2 hc)⟩
      rw [e] at this
      cases this
end FF
set_option Elab.async false
set_option linter.all false
set_option maxRecDepth 100000
set_option maxHeartbeats 4000000
/-! the mathematics: stretches and texts from the other end -/
namespace FF
open PySem PySem.Spec PyProof.Rows L2
theorem cut_rev {cs : List (List Nat)} {f l : Nat} (hf : f ≤ l) (hl : l < cs.length) : cutC cs.reverse ((cs.length - 1 - l : Nat) : Int) ((cs.length - 1 - f : Nat) : Int) = (cutC cs (f : Nat) (l : Nat)).reverse := by
  unfold cutC
  rw [Int.toNat_natCast, Int.toNat_natCast, Int.toNat_natCast, Int.toNat_natCast]
  refine List.ext_getElem? fun i => ?_
  have l1 : ((cs.drop f).take (l + 1 - f)).length = l + 1 - f := by rw [List.length_take, List.length_drop]; omega
  by_cases hi : i < l + 1 - f
  · rw [List.getElem?_take_of_lt (by omega), List.getElem?_drop, List.getElem?_reverse (by omega), List.getElem?_reverse (by rw [l1]; exact hi), l1, List.getElem?_take_of_lt (by omega), List.getElem?_drop]
    congr 1
    omega
  · rw [List.getElem?_eq_none (by rw [List.length_take, List.length_drop, List.length_reverse]; omega), List.getElem?_eq_none (by rw [List.length_reverse, l1]; omega)]
def mir (n : Nat) (p : Int × Int) : Int × Int := ((n : Int) - 1 - p.2, (n : Int) - 1 - p.1)
theorem holds_rev (cs : List (List Nat)) : ∀ (sts : List (Int × Int)) (a : Int), 0 ≤ a → holdsP cs a sts = true → holdsP cs.reverse 0 (sts.reverse.map (mir cs.length)) = true ∧ ∀ p, sts.head? = some p → a ≤ p.1 ∧ endOf 0 (sts.reverse.map (mir cs.length)) = (cs.length : Int) - 1 - p.1
  | [], _, _, _ => ⟨rfl, fun p h => nomatch h⟩
  | p :: sts, a, a0, h => by
    rw [holdsP, Bool.and_eq_true, Bool.and_eq_true] at h
    obtain ⟨h1, h2, h3⟩ := h
    unfold fits at h1
    rw [Bool.and_eq_true, Bool.and_eq_true, decide_eq_true_iff, decide_eq_true_iff, decide_eq_true_iff] at h1
    obtain ⟨ih, ihe⟩ := holds_rev cs sts p.2 (by omega) h3
    rw [List.reverse_cons, List.map_append]
    show holdsP cs.reverse 0 (sts.reverse.map (mir cs.length) ++ [mir cs.length p]) = true ∧ _
    obtain ⟨f, hf⟩ : ∃ f : Nat, p.1 = f := ⟨p.1.toNat, by omega⟩
    obtain ⟨l, hl⟩ : ∃ l : Nat, p.2 = l := ⟨p.2.toNat, by omega⟩
    have en : endOf 0 (sts.reverse.map (mir cs.length)) ≤ (cs.length : Int) - 1 - p.2 := by
      cases sts with
      | nil => show (0 : Int) ≤ _; omega
      | cons q sts =>
        obtain ⟨q1, q2⟩ := ihe q rfl
        rw [q2]
        omega
    refine ⟨?_, fun q hq => ?_⟩
    · rw [holds_snoc, ih, Bool.true_and, Bool.and_eq_true]
      refine ⟨?_, ?_⟩
      · unfold fits
        rw [List.length_reverse, Bool.and_eq_true, Bool.and_eq_true, decide_eq_true_iff, decide_eq_true_iff, decide_eq_true_iff]
        show _ ≤ (cs.length : Int) - 1 - p.2 ∧ (cs.length : Int) - 1 - p.2 ≤ (cs.length : Int) - 1 - p.1 ∧ (cs.length : Int) - 1 - p.1 < _
        omega
      · have e1 : (mir cs.length p).1 = ((cs.length - 1 - l : Nat) : Int) := by show (cs.length : Int) - 1 - p.2 = _; omega
        have e2 : (mir cs.length p).2 = ((cs.length - 1 - f : Nat) : Int) := by show (cs.length : Int) - 1 - p.1 = _; omega
        rw [e1, e2, cut_rev (by omega) (by omega), torn_rev, ← hf, ← hl]
        exact h2
    · cases hq
      refine ⟨h1.1, ?_⟩
      show endOf 0 (sts.reverse.map (mir cs.length) ++ [mir cs.length p]) = _
      unfold endOf
      rw [List.getLast?_concat]
      rfl
/-- a letter with its marks -/
def ClusOk (c : List Int) : Prop := ∃ a m, c = a :: m ∧ a < 800 ∧ ∀ z ∈ m, ¬ z < 800
theorem part_marks (P : List (List Int)) (c : List Int) : ∀ m : List Int, (∀ z ∈ m, ¬ z < 800) → m.foldl partStep (P ++ [c]) = P ++ [c ++ m]
  | [], _ => by rw [List.append_nil]; rfl
  | z :: m, h => by
    rw [List.foldl_cons]
    have e : partStep (P ++ [c]) z = P ++ [c ++ [z]] := by
      unfold partStep
      have hz := h z (List.mem_cons_self ..)
      rw [if_neg (fun q => q.elim hz fun q => by cases P <;> cases q)]
      simp
    rw [e, part_marks P (c ++ [z]) m fun y hy => h y (List.mem_cons_of_mem _ hy), List.append_assoc]
    rfl
theorem parts_flat : ∀ (cs P : List (List Int)), (∀ c ∈ cs, ClusOk c) → cs.flatten.foldl partStep P = P ++ cs
  | [], P, _ => by rw [List.append_nil]; rfl
  | c :: cs, P, h => by
    obtain ⟨a, m, rfl, ha, hm⟩ := h c (List.mem_cons_self ..)
    rw [List.flatten_cons, List.foldl_append, List.foldl_cons]
    have e : partStep P a = P ++ [[a]] := by
      unfold partStep
      rw [if_pos (.inl ha)]
    rw [e, part_marks P [a] m hm, parts_flat cs _ fun c hc => h c (List.mem_cons_of_mem _ hc), List.append_assoc]
    rfl
/-- the clusters of the text that has them from the other end -/
theorem parts_turned {t : List Int} (h : ∀ c ∈ partsI t, ClusOk c) : partsI (partsI t).reverse.flatten = (partsI t).reverse := by
  have := parts_flat (partsI t).reverse [] fun c hc => h c (List.mem_reverse.1 hc)
  rw [List.nil_append] at this
  exact this
theorem chosen_turned {fs : List Face} {t : List Int} (h : ∀ c ∈ partsI t, ClusOk c) : chosen fs (partsI t).reverse.flatten = (chosen fs t).reverse := by
  unfold chosen
  rw [parts_turned h, List.map_reverse]
theorem step_ok {P : List (List Int)} {z : Int} (h : ∀ c ∈ P, ClusOk c) (hz : z < 800 ∨ P ≠ []) : (∀ c ∈ partStep P z, ClusOk c) ∧ partStep P z ≠ [] := by
  unfold partStep
  by_cases c : z < 800 ∨ P = []
  · rw [if_pos c]
    have z8 : z < 800 := by
      rcases c with c | c
      · exact c
      · rcases hz with q | q
        · exact q
        · exact absurd c q
    exact ⟨fun x hx => (List.mem_append.1 hx).elim (h x) fun q => by rw [List.mem_singleton.1 q]; exact ⟨z, [], rfl, z8, fun y hy => nomatch hy⟩, by simp⟩
  · rw [if_neg c]
    have pne : P ≠ [] := fun e => c (.inr e)
    obtain ⟨Q, l, rfl⟩ : ∃ Q l, P = Q ++ [l] := ⟨_, _, (List.dropLast_concat_getLast pne).symm⟩
    obtain ⟨a, m, rfl, ha, hm⟩ := h l (List.mem_append_right _ (List.mem_singleton.2 rfl))
    have key : ClusOk (a :: m ++ [z]) := ⟨a, m ++ [z], rfl, ha, fun y hy => (List.mem_append.1 hy).elim (hm y) fun q => by rw [List.mem_singleton.1 q]; exact fun z8 => c (.inl z8)⟩
    refine ⟨fun x hx => ?_, by simp⟩
    simp only [List.dropLast_concat, List.getLastD_concat, List.mem_append, List.mem_singleton] at hx
    rcases hx with hx | hx
    · exact h x (List.mem_append_left _ hx)
    · rw [hx]
      exact key
theorem parts_ok {t : List Int} (h : ∀ a, t.head? = some a → a < 800) : ∀ c ∈ partsI t, ClusOk c := by
  have go : ∀ (t : List Int) (P : List (List Int)), (∀ c ∈ P, ClusOk c) → P ≠ [] → ∀ c ∈ t.foldl partStep P, ClusOk c := by
    intro t
    induction t with
    | nil => exact fun P h _ => h
    | cons z t ih =>
      intro P hP hne
      have := step_ok (z := z) hP (.inr hne)
      exact ih _ this.1 this.2
  cases t with
  | nil => intro c hc; cases hc
  | cons a t =>
    have := step_ok (P := []) (z := a) (fun c hc => nomatch hc) (.inl (h a rfl))
    exact go t _ this.1 this.2
end FF
set_option Elab.async false
set_option linter.all false
set_option maxRecDepth 100000
set_option maxHeartbeats 4000000
/-! the mathematics: more choices, and texts that are cut -/
namespace FF
open PySem PySem.Spec PyProof.Rows L2
theorem chg_map (g : Option Nat → Option Nat) : ∀ r : List (Option Nat), chg (r.map g) ≤ chg r
  | [] => Nat.le_refl _
  | [a] => Nat.le_refl _
  | a :: b :: r => by
    have ih := chg_map g (b :: r)
    rw [List.map_cons] at ih
    rw [List.map_cons, List.map_cons, chg_two, chg_two]
    by_cases c : a = b
    · rw [if_pos c, if_pos (by rw [c])]
      omega
    · rw [if_neg c]
      split <;> omega
/-- where each cluster may tell what was told, by another number perhaps, there are no more changes -/
theorem shown_more {fs fs' : List Face} {t t' : List Int} (g : Option Nat → Option Nat) (hl : (chosen fs' t').length = (chosen fs t).length) (h : ∀ (i : Nat) (c c' : List Nat) (f : Option Nat), (chosen fs t)[i]? = some c → (chosen fs' t')[i]? = some c' → f ∈ tell c → g f ∈ tell c') : chg (shownP fs' t') ≤ chg (shownP fs t) := by
  have v := shown_valid fs t
  refine Nat.le_trans (shown_min (r := (shownP fs t).map g) ⟨by rw [List.length_map, v.1, hl], fun i c' f' h1 h2 => ?_⟩) (chg_map g _)
  rw [List.getElem?_map] at h2
  cases e : (shownP fs t)[i]? with
  | none => rw [e] at h2; cases h2
  | some f =>
    rw [e] at h2
    cases h2
    have hi := (List.getElem?_eq_some_iff.1 e).1
    rw [v.1] at hi
    have hc : (chosen fs t)[i]? = some (chosen fs t)[i] := List.getElem?_eq_getElem hi
    exact h i _ c' f hc h1 (v.2 i _ f hc e)
theorem chg_app : ∀ (r s : List (Option Nat)), chg r + chg s ≤ chg (r ++ s) ∧ chg (r ++ s) ≤ chg r + chg s + 1
  | [], s => by rw [List.nil_append]; have : chg [] = 0 := rfl; omega
  | [a], [] => by rw [List.append_nil]; have : chg [] = 0 := rfl; omega
  | [a], b :: s => by
    show chg [a] + chg (b :: s) ≤ chg (a :: b :: s) ∧ chg (a :: b :: s) ≤ _
    rw [chg_two]
    have : chg [a] = 0 := rfl
    split <;> omega
  | a :: b :: r, s => by
    obtain ⟨h1, h2⟩ := chg_app (b :: r) s
    show chg (a :: b :: r) + chg s ≤ chg (a :: b :: (r ++ s)) ∧ chg (a :: b :: (r ++ s)) ≤ _
    rw [chg_two, chg_two]
    rw [List.cons_append] at h1 h2
    omega
theorem valid_app {cs ds : List (List Nat)} {r s : List (Option Nat)} (h : Valid cs r) (h2 : Valid ds s) : Valid (cs ++ ds) (r ++ s) := by
  refine ⟨by rw [List.length_append, List.length_append, h.1, h2.1], fun i c f e1 e2 => ?_⟩
  by_cases hi : i < cs.length
  · rw [List.getElem?_append_left hi] at e1
    rw [List.getElem?_append_left (by rw [h.1]; exact hi)] at e2
    exact h.2 i c f e1 e2
  · rw [List.getElem?_append_right (by omega)] at e1
    rw [List.getElem?_append_right (by rw [h.1]; omega), h.1] at e2
    exact h2.2 _ c f e1 e2
theorem valid_split {cs ds : List (List Nat)} {r : List (Option Nat)} (h : Valid (cs ++ ds) r) : Valid cs (r.take cs.length) ∧ Valid ds (r.drop cs.length) := by
  have hl := h.1
  rw [List.length_append] at hl
  refine ⟨⟨by rw [List.length_take]; omega, fun i c f e1 e2 => ?_⟩, by rw [List.length_drop]; omega, fun i c f e1 e2 => ?_⟩
  · have hi := (List.getElem?_eq_some_iff.1 e1).1
    rw [List.getElem?_take_of_lt hi] at e2
    exact h.2 i c f (by rw [List.getElem?_append_left hi]; exact e1) e2
  · rw [List.getElem?_drop] at e2
    exact h.2 _ c f (by rw [List.getElem?_append_right (Nat.le_add_right _ _), Nat.add_sub_cancel_left]; exact e1) e2
/-- a text that is cut between clusters -/
theorem shown_cut {fs : List Face} {t u v : List Int} (h : chosen fs t = chosen fs u ++ chosen fs v) : chg (shownP fs u) ≤ chg (shownP fs t) ∧ chg (shownP fs v) ≤ chg (shownP fs t) ∧ chg (shownP fs t) ≤ chg (shownP fs u) + chg (shownP fs v) + 1 := by
  have vt := shown_valid fs t
  rw [h] at vt
  obtain ⟨v1, v2⟩ := valid_split vt
  have m1 := shown_min v1
  have m2 := shown_min v2
  have a1 := chg_app ((shownP fs t).take (chosen fs u).length) ((shownP fs t).drop (chosen fs u).length)
  rw [List.take_append_drop] at a1
  have v3 := valid_app (shown_valid fs u) (shown_valid fs v)
  rw [← h] at v3
  have m3 := shown_min v3
  have a2 := chg_app (shownP fs u) (shownP fs v)
  omega
theorem foldl_parts (v : List Int) : ∀ (P Q : List (List Int)), Q ≠ [] → v.foldl partStep (P ++ Q) = P ++ v.foldl partStep Q := by
  induction v with
  | nil => exact fun P Q _ => rfl
  | cons z v ih =>
    intro P Q hQ
    rw [List.foldl_cons, List.foldl_cons]
    have e : partStep (P ++ Q) z = P ++ partStep Q z := by
      obtain ⟨Q', l, rfl⟩ : ∃ Q' l, Q = Q' ++ [l] := ⟨_, _, (List.dropLast_concat_getLast hQ).symm⟩
      unfold partStep
      by_cases c : z < 800
      · rw [if_pos (.inl c), if_pos (.inl c), List.append_assoc]
      · rw [if_neg (fun q => q.elim c fun q => by simp at q), if_neg (fun q => q.elim c fun q => by simp at q), ← List.append_assoc]
        simp
    have ne : partStep Q z ≠ [] := by
      unfold partStep
      split
      · simp
      · simp
    rw [e, ih P _ ne]
theorem parts_app {u v : List Int} (h : ∀ a, v.head? = some a → a < 800) : partsI (u ++ v) = partsI u ++ partsI v := by
  unfold partsI
  rw [List.foldl_append]
  cases v with
  | nil => rw [List.foldl_nil, List.foldl_nil, List.append_nil]
  | cons a v =>
    have ha := h a rfl
    rw [List.foldl_cons, List.foldl_cons]
    have e : partStep (u.foldl partStep []) a = u.foldl partStep [] ++ [[a]] := by unfold partStep; rw [if_pos (.inl ha)]
    have e2 : partStep [] a = [[a]] := by unfold partStep; rw [if_pos (.inl ha)]; rfl
    rw [e, e2, foldl_parts v _ _ (List.cons_ne_nil _ _)]
theorem chosen_app {fs : List Face} {u v : List Int} (h : ∀ a, v.head? = some a → a < 800) : chosen fs (u ++ v) = chosen fs u ++ chosen fs v := by
  unfold chosen
  rw [parts_app h, List.map_append]
end FF
set_option Elab.async false
set_option linter.all false
set_option maxRecDepth 100000
set_option maxHeartbeats 4000000
/-! k12: drawn faces, no more of them than asked, and of the pool's signs -/
namespace FF
open PySem PySem.Spec PyProof.Rows L2
def sp__law_facesM (K : PySem.W.Frag) : Sp := fun vs H Q _ => ∃ (ar as : Addr) (sc : List Int) (vp : V) (ls ms : List Int) (most : Int), vs = [.ref ar, vp, .int most] ∧ RowI K ar as sc H ∧ PoolOk ls ms ∧ Dt (fun a => a = ar) H (poolD ls ms) vp ∧ 1 ≤ most ∧ most ≤ 8 ∧
  ∀ (fs : List Face) (v : V) (H' : Hp), FacesOk fs → (fs.length : Int) ≤ most → (∀ f ∈ fs, ∀ z ∈ f.signs, z ∈ ls ∨ z ∈ ms) → Le (Rr K ar as sc) H H' → Dt (Dom H) H' (facesD fs) v → Q v H'
theorem rd__law_facesM {K : PySem.W.Frag} (vs : List V) (H : Hp) (Q : VK) (E : XK) (h : sp__law_facesM K vs H Q E) : r__law_faces K { nx := fun _ H' => Q .non H', rt := Q } (start ["_law_row", "_law_pool_here", "_law_most", "_law_names_here", "_law_found", "_law_name", "_law_many", "_law_letters", "_law_marks", "_law_sign"] vs) H := by
  obtain ⟨ar, as, sc, vp, ls, ms, most, rfl, ok, po, dp, m0, m8, k⟩ := h
  have nk : Nk (Rr K ar as sc) (Dom H) H := Nk.dom ok
  have sub : ∀ a, (Rr K ar as sc).W a → a = ar := fun a w => w
  have drw : ∀ (σ : L2.St) (m : Int) (H2 : Hp), σ[0]? = some (some (.ref ar)) → 0 < m → m < 1000000000 → EvZ (Rr K ar as sc) (tCall (sp__law_taken K) [] E0 (tCons (tVar 0) (tCons (tC (.int m)) tNil))) σ H2 (fun z => 0 ≤ z ∧ z < m) :=
    fun σ m H2 hσ h0 h1 => z_draw (N := Dom H) hσ e_int h0 h1
  -- the names
  refine q_asgP (R := Rr K ar as sc) (N := Dom H) (φp := fun d => ∃ ns : List Str, d = .list (ns.map .str) ∧ NamesOk ns ∧ (ns.length : Int) ≤ most) ?_ ok fun dn vn H1 e1 on rn => ?_
  · refine fun H1 e1 Q q => ⟨_, rfl, ?_⟩
    refine (z_pick2 (R := Rr K ar as sc) (χ := fun z => 0 ≤ z ∧ z ≤ most) (H := H) ?_ ?_ (drw _ 2 H rfl (by decide) (by decide))) H1 e1 _ fun many H2 e2 hm => ?_
    · exact (z_draw (N := Dom H) rfl (e_add (e_vi rfl) e_int) (by omega) (by omega)).imp fun z q => by omega
    · refine z_add (φ := fun z => z = 1) (ψ := fun z => 0 ≤ z ∧ z < 4 ∧ z < most) (z_of (N := Dom H) e_int rfl) ((z_draw (N := Dom H) rfl (e_min2 (e_vi rfl) e_int) ?_ ?_).imp fun z q => ?_) fun i j p q => by omega
      · split <;> omega
      · split <;> omega
      · split at q <;> omega
    · refine ⟨ar, as, sc, many, rfl, e2.ok, hm.1, by omega, fun ns v H3 hns hl e3 r3 => ?_⟩
      exact q _ v H3 (e2.trans e3) ⟨ns, rfl, hns, by omega⟩ (r3.weak fun a ha => ((nk.le e1).le e2).domle a ha)
  obtain ⟨ns, rfl, hns, hnl⟩ := on
  refine q_asgNew (R := Rr K ar as sc) e1.ok fun p H2 hp e2 h2 => ?_
  have hp0 : H p = none := e1.back p hp
  have pW : ¬ (Rr K ar as sc).W p := notW_of ok hp0
  refine q_forLd (R := Rr K ar as sc) (Hn := H1) rfl rn nk.sub (fun i σ' H' => ∃ (fs : List Face) (vs : List V) (x5 x6 x7 x8 x9 : Option V), σ' = [some (.ref ar), some vp, some (.int most), some vn, some (.ref p), x5, x6, x7, x8, x9] ∧ Le (Rr K ar as sc) H1 H' ∧ H' p = some (.lst vs) ∧
      DtA (fun a => a = p ∨ Dom H a) H' (fs.map faceD) vs ∧ fs.map (·.name) = ns.take i ∧ ∀ f ∈ fs, FaceOk f ∧ ∀ z ∈ f.signs, z ∈ ls ∨ z ∈ ms)
    ⟨[], [], none, none, none, none, none, rfl, e2, h2, .nil, rfl, fun f hf => nomatch hf⟩ (fun i σ' H' ⟨_, _, _, _, _, _, _, _, q, _⟩ => q) ?_ ?_
  · rintro i x v σ' H' hx ⟨fs, vs, x5, x6, x7, x8, x9, rfl, e3, h3, r3, hn3, hf3⟩ rx
    rw [List.getElem?_map] at hx
    cases hi : ns[i]? with
    | none => rw [hi] at hx; cases hx
    | some nm =>
    rw [hi] at hx
    cases hx
    cases rx
    have e13 := e1.trans e3
    have dp3 := dp.le e13 sub
    have nkp : Nk (Rr K ar as sc) (fun a => a = p ∨ Dom H a) H' := nk_more nk e13 h3
    have Np : ∀ a, (Rr K ar as sc).W a → (a = p ∨ Dom H a) := nkp.sub
    refine q_asgZ (R := Rr K ar as sc) (φ := fun z => 2 ≤ z ∧ z < 5) (z_add (φ := fun z => z = 2) (z_of (N := Dom H) e_int rfl) (drw _ 3 H' rfl (by decide) (by decide)) fun i j p q => by omega) e3.ok fun many H4 e4 hm => ?_
    refine q_asgP (R := Rr K ar as sc) (N := fun a => a = p ∨ Dom H a) (φp := fun d => ∃ ks : List Int, d = .list (ks.map .int) ∧ ks.Sublist ls) ?_ e4.ok fun d7 v7 H5 e5 o7 r7 => ?_
    · exact keep_drawn (N0 := fun a => a = ar) (e_ixt (ds := [PyData.list (ls.map .int), PyData.list (ms.map .int)]) (e_var rfl (dp3.le e4 sub) sub) e_int sub rfl) (fun _ h => h) (by have := po.ll; omega) (nkp.le e4) (fun _ => rfl) (fun _ => rfl) (fun _ => rfl) (fun x H1 => e_vi rfl) (by omega) (by omega)
    refine q_asgP (R := Rr K ar as sc) (N := fun a => a = p ∨ Dom H a) (φp := fun d => ∃ ks : List Int, d = .list (ks.map .int) ∧ ks.Sublist ms) ?_ e5.ok fun d8 v8 H6 e6 o8 r8 => ?_
    · exact keep_drawn (N0 := fun a => a = ar) (e_ixt (ds := [PyData.list (ls.map .int), PyData.list (ms.map .int)]) (e_var rfl ((dp3.le e4 sub).le e5 sub) sub) e_int sub rfl) (fun _ h => h) (by have := po.ml; omega) (nkp.le (e4.trans e5)) (fun _ => rfl) (fun _ => rfl) (fun _ => rfl) (fun x H1 => e_int) (by decide) (by decide)
    obtain ⟨kl, rfl, sl⟩ := o7
    obtain ⟨km, rfl, sm⟩ := o8
    have e36 := ((e3.trans e4).trans e5).trans e6
    have h6 := ((e4.trans e5).trans e6).ext p _ pW h3
    have r6 := ((r3.le e4 Np).le e5 Np).le e6 Np
    have fl : fs.length ≤ 8 := by
      have q := congrArg List.length hn3
      rw [List.length_map, List.length_take] at q
      omega
    refine s_appP (R := Rr K ar as sc) (N := fun a => a = p ∨ Dom H a) (φp := fun d => ∃ x y z, d = .tuple [x, y, z] ∧ x = .str nm ∧ (∃ w, y = .int w ∧ 0 ≤ w ∧ w < 10) ∧ z = .tuple ((kl ++ km).map .int)) rfl h6 pW ?_ e6.ok (by rw [r6.length, List.length_map]; omega) fun d v H7 e7 o r7 h7 => ?_
    · refine p_tup3 (φ := fun x => x = .str nm) (ψ := fun y => ∃ w, y = .int w ∧ 0 ≤ w ∧ w < 10) (χ := fun z => z = .tuple ((kl ++ km).map .int)) (Ev.p (e_vs rfl)) (EvZ.p ?_) (Ev.p ((e_tuple (e_addl (e_var rfl (r7.le e6 Np) Np) (e_var rfl r8 Np) ?_ (nkp.le ((e4.trans e5).trans e6))) Np).is (by rw [List.map_append]))) Np
      · refine z_pick2 ((drw _ 3 H6 rfl (by decide) (by decide)).imp fun z q => by omega) ((drw _ 10 H6 rfl (by decide) (by decide)).imp fun z q => by omega) (drw _ 2 H6 rfl (by decide) (by decide))
      · have := sl.length_le
        have := sm.length_le
        have := po.ll
        have := po.ml
        simp only [List.length_map]
        omega
    · obtain ⟨_, _, _, rfl, rfl, ⟨w, rfl, w0, w9⟩, rfl⟩ := o
      refine ⟨fs ++ [⟨nm, w, kl ++ km⟩], vs ++ [v], _, _, _, _, _, rfl, (e36.trans e7).put hp h7, upd_same, ?_, ?_, ?_⟩
      · rw [List.map_append]
        exact ((r6.le e7 Np).append (.one r7)).put (.inl rfl) h7
      · rw [List.map_append, hn3, List.take_add_one, hi]
        rfl
      · intro f hf
        rcases List.mem_append.mp hf with q | q
        · exact hf3 f q
        · simp at q
          subst q
          have hs := hns.2 nm (List.mem_of_getElem? hi)
          refine ⟨⟨hs, ⟨w0, by show w ≤ 9; omega⟩, ?_, ?_, ?_⟩, fun z hz => (List.mem_append.mp hz).elim (fun q => .inl (sl.subset q)) fun q => .inr (sm.subset q)⟩
          · refine List.pairwise_append.mpr ⟨po.lr.sublist sl, po.mr.sublist sm, fun a ha b hb => ?_⟩
            have := po.lb a (sl.subset ha)
            have := po.mb b (sm.subset hb)
            omega
          · intro z hz
            rcases List.mem_append.mp hz with q | q
            · have := po.lb z (sl.subset q); omega
            · have := po.mb z (sm.subset q); omega
          · have := sl.length_le
            have := sm.length_le
            have := po.ll
            have := po.ml
            show (kl ++ km).length ≤ 100
            rw [List.length_append]
            omega
  · rintro σ' H' ⟨fs, vs, x5, x6, x7, x8, x9, rfl, e3, h3, r3, hn3, hf3⟩
    have lfs : fs.length ≤ ns.length := by
      have q := congrArg List.length hn3
      rw [List.length_map, List.length_take] at q
      omega
    refine ⟨_, rfl, k fs _ H' ⟨?_, ?_, fun f hf => (hf3 f hf).1⟩ (by omega) (fun f hf => (hf3 f hf).2) (e1.trans e3) (.lst (nk.fresh hp0) h3 (r3.weak fun a ha => .inr ha))⟩
    · omega
    · rw [hn3]
      exact hns.1.sublist (List.take_sublist ..)
end FF
set_option Elab.async false
set_option linter.all false
set_option maxRecDepth 100000
set_option maxHeartbeats 4000000
/-! k12: the mathematics: a face more, or a face with more signs -/
namespace FF
open PySem PySem.Spec PyProof.Rows L2
theorem hav_mem {fs : List Face} {s : List Int} {n : Nat} : n ∈ havP fs s ↔ ∃ f, fs[n]? = some f ∧ hasAll f s = true := by
  unfold havP
  rw [List.mem_filter, List.mem_range]
  constructor
  · rintro ⟨h1, h2⟩
    have e : fs[n]? = some fs[n] := List.getElem?_eq_getElem h1
    refine ⟨_, e, ?_⟩
    rw [List.getD_eq_getElem?_getD, e] at h2
    exact h2
  · rintro ⟨f, h1, h2⟩
    refine ⟨(List.getElem?_eq_some_iff.1 h1).1, ?_⟩
    rw [List.getD_eq_getElem?_getD, h1]
    exact h2
/-- behind a face that is put in at p the numbers are one more -/
def behind (p : Nat) (n : Nat) : Nat := if n < p then n else n + 1
theorem hav_insert {fs : List Face} {x : Face} {p : Nat} {s : List Int} {n : Nat} (hp : p ≤ fs.length) (h : n ∈ havP fs s) : behind p n ∈ havP (fs.take p ++ [x] ++ fs.drop p) s := by
  obtain ⟨f, h1, h2⟩ := hav_mem.1 h
  refine hav_mem.2 ⟨f, ?_, h2⟩
  have lt : (fs.take p).length = p := by rw [List.length_take]; omega
  unfold behind
  by_cases c : n < p
  · rw [if_pos c, List.append_assoc, List.getElem?_append_left (by rw [lt]; exact c), List.getElem?_take_of_lt c]
    exact h1
  · rw [if_neg c, List.getElem?_append_right (by rw [List.length_append, lt]; show p + 1 ≤ n + 1; omega), List.length_append, lt, List.getElem?_drop]
    show fs[p + (n + 1 - (p + 1))]? = _
    rw [show p + (n + 1 - (p + 1)) = n by omega]
    exact h1
theorem hav_fill {fs : List Face} {k : Nat} {g : Face} {s : List Int} {n : Nat} (hg : ∀ f, fs[k]? = some f → ∀ z ∈ f.signs, z ∈ g.signs) (h : n ∈ havP fs s) : n ∈ havP (fs.take k ++ [g] ++ fs.drop (k + 1)) s := by
  obtain ⟨f, h1, h2⟩ := hav_mem.1 h
  have hn := (List.getElem?_eq_some_iff.1 h1).1
  by_cases hk : k < fs.length
  · have lt : (fs.take k).length = k := by rw [List.length_take]; omega
    by_cases c : n < k
    · refine hav_mem.2 ⟨f, ?_, h2⟩
      rw [List.append_assoc, List.getElem?_append_left (by rw [lt]; exact c), List.getElem?_take_of_lt c]
      exact h1
    · by_cases e : n = k
      · subst e
        refine hav_mem.2 ⟨g, ?_, ?_⟩
        · rw [List.append_assoc, List.getElem?_append_right (by rw [lt]; exact Nat.le_refl _), lt, Nat.sub_self]
          rfl
        · unfold hasAll at h2 ⊢
          rw [List.all_eq_true] at h2 ⊢
          exact fun z hz => decide_eq_true (hg f h1 z (of_decide_eq_true (h2 z hz)))
      · refine hav_mem.2 ⟨f, ?_, h2⟩
        rw [List.getElem?_append_right (by rw [List.length_append, lt]; show k + 1 ≤ n; omega), List.length_append, lt, List.getElem?_drop]
        show fs[k + 1 + (n - (k + 1))]? = _
        rw [show k + 1 + (n - (k + 1)) = n by omega]
        exact h1
  · refine hav_mem.2 ⟨f, ?_, h2⟩
    rw [List.take_of_length_le (by omega), List.append_assoc, List.getElem?_append_left hn]
    exact h1
theorem chosen_at_part {fs : List Face} {t : List Int} {i : Nat} {c : List Nat} (h : (chosen fs t)[i]? = some c) : ∃ s, (partsI t)[i]? = some s ∧ c = havP fs s := by
  unfold chosen at h
  rw [List.getElem?_map] at h
  cases e : (partsI t)[i]? with
  | none => rw [e] at h; cases h
  | some s => rw [e] at h; exact ⟨s, rfl, (Option.some.inj h).symm⟩
/-- where every cluster has a choice, numbers that go over to choices go over to tells -/
theorem shown_over {fs fs' : List Face} {t : List Int} (g : Nat → Nat) (hne : ∀ c ∈ chosen fs t, c ≠ []) (h : ∀ s n, n ∈ havP fs s → g n ∈ havP fs' s) : chg (shownP fs' t) ≤ chg (shownP fs t) := by
  refine shown_more (fun f => f.map g) (by unfold chosen; rw [List.length_map, List.length_map]) fun i c c' f h1 h2 hf => ?_
  obtain ⟨s, e1, rfl⟩ := chosen_at_part h1
  obtain ⟨s', e2, rfl⟩ := chosen_at_part h2
  rw [e1] at e2
  cases e2
  have ne := hne _ (List.mem_of_getElem? h1)
  unfold tell at hf
  rw [if_neg ne] at hf
  obtain ⟨n, hn, rfl⟩ := List.mem_map.1 hf
  have hg := h s n hn
  unfold tell
  rw [if_neg fun z => by rw [z] at hg; cases hg]
  exact List.mem_map.2 ⟨g n, hg, rfl⟩
theorem shown_insert {fs : List Face} {x : Face} {p : Nat} {t : List Int} (hp : p ≤ fs.length) (hne : ∀ c ∈ chosen fs t, c ≠ []) : chg (shownP (fs.take p ++ [x] ++ fs.drop p) t) ≤ chg (shownP fs t) := shown_over (behind p) hne fun _ _ h => hav_insert hp h
theorem shown_fill {fs : List Face} {k : Nat} {g : Face} {t : List Int} (hg : ∀ f, fs[k]? = some f → ∀ z ∈ f.signs, z ∈ g.signs) (hne : ∀ c ∈ chosen fs t, c ≠ []) : chg (shownP (fs.take k ++ [g] ++ fs.drop (k + 1)) t) ≤ chg (shownP fs t) := shown_over id hne fun _ _ h => hav_fill hg h
end FF
set_option Elab.async false
set_option linter.all false
set_option maxRecDepth 100000
set_option maxHeartbeats 4000000
/-! k12: the mathematics: texts of clusters that are kept, faces that stay a case -/
namespace FF
open PySem PySem.Spec PyProof.Rows L2
/-- a sign with marks behind it -/
def ClusM (c : List Int) : Prop := ∃ a m, c = a :: m ∧ ∀ z ∈ m, ¬ z < 800
theorem ClusOk.m {c : List Int} (h : ClusOk c) : ClusM c := let ⟨a, m, e, _, hm⟩ := h; ⟨a, m, e, hm⟩
/-- clusters one behind another, all but the first begun by letters -/
def RowOk : List (List Int) → Prop
  | [] => True
  | c :: cs => ClusM c ∧ ∀ d ∈ cs, ClusOk d
theorem parts_row {cs : List (List Int)} (h : RowOk cs) : partsI cs.flatten = cs := by
  cases cs with
  | nil => rfl
  | cons c cs =>
    obtain ⟨⟨a, m, rfl, hm⟩, hc⟩ := h
    unfold partsI
    rw [List.flatten_cons, List.foldl_append, List.foldl_cons]
    have e : partStep [] a = [] ++ [[a]] := by unfold partStep; rw [if_pos (.inr rfl)]
    rw [e, part_marks [] [a] m hm, parts_flat cs _ hc]
    rfl
theorem step_row {P : List (List Int)} (z : Int) (h : RowOk P) : RowOk (partStep P z) := by
  unfold partStep
  by_cases c : z < 800 ∨ P = []
  · rw [if_pos c]
    cases P with
    | nil => exact ⟨⟨z, [], rfl, fun y hy => nomatch hy⟩, fun d hd => nomatch hd⟩
    | cons p P =>
      have z8 : z < 800 := c.elim id fun e => nomatch e
      exact ⟨h.1, fun d hd => (List.mem_append.1 hd).elim (h.2 d) fun q => by rw [List.mem_singleton.1 q]; exact ⟨z, [], rfl, z8, fun y hy => nomatch hy⟩⟩
  · rw [if_neg c]
    have z8 : ¬ z < 800 := fun e => c (.inl e)
    have pne : P ≠ [] := fun e => c (.inr e)
    obtain ⟨Q, l, rfl⟩ : ∃ Q l, P = Q ++ [l] := ⟨_, _, (List.dropLast_concat_getLast pne).symm⟩
    rw [List.dropLast_concat, List.getLastD_concat]
    cases Q with
    | nil =>
      obtain ⟨⟨a, m, rfl, hm⟩, _⟩ := h
      exact ⟨⟨a, m ++ [z], rfl, fun y hy => (List.mem_append.1 hy).elim (hm y) fun q => by rw [List.mem_singleton.1 q]; exact z8⟩, fun d hd => nomatch hd⟩
    | cons q Q =>
      refine ⟨h.1, fun d hd => ?_⟩
      rcases List.mem_append.1 hd with hd | hd
      · exact h.2 d (List.mem_append_left _ hd)
      · rw [List.mem_singleton.1 hd]
        obtain ⟨a, m, rfl, ha, hm⟩ := h.2 l (List.mem_append_right _ (List.mem_singleton.2 rfl))
        exact ⟨a, m ++ [z], rfl, ha, fun y hy => (List.mem_append.1 hy).elim (hm y) fun q => by rw [List.mem_singleton.1 q]; exact z8⟩
theorem parts_rowok (t : List Int) : RowOk (partsI t) := by
  have go : ∀ (t : List Int) (P : List (List Int)), RowOk P → RowOk (t.foldl partStep P) := fun t => by
    induction t with
    | nil => exact fun P h => h
    | cons z t ih => exact fun P h => ih _ (step_row z h)
  exact go t [] trivial
theorem row_filter (p : List Int → Bool) {cs : List (List Int)} (h : RowOk cs) : RowOk (cs.filter p) := by
  cases cs with
  | nil => trivial
  | cons c cs =>
    have rest : ∀ d ∈ cs.filter p, ClusOk d := fun d hd => h.2 d (List.mem_filter.1 hd).1
    rw [List.filter_cons]
    split
    · exact ⟨h.1, rest⟩
    · cases e : cs.filter p with
      | nil => trivial
      | cons d ds =>
        rw [e] at rest
        exact ⟨(rest d (List.mem_cons_self ..)).m, fun x hx => rest x (List.mem_cons_of_mem _ hx)⟩
/-- the text of the clusters that some face has: every cluster has a choice -/
def keptP (fs : List Face) (t : List Int) : List Int := ((partsI t).filter fun s => !(havP fs s).isEmpty).flatten
theorem parts_kept (fs : List Face) (t : List Int) : partsI (keptP fs t) = (partsI t).filter fun s => !(havP fs s).isEmpty := parts_row (row_filter _ (parts_rowok t))
theorem kept_ne (fs : List Face) (t : List Int) : ∀ c ∈ chosen fs (keptP fs t), c ≠ [] := by
  intro c hc e
  unfold chosen at hc
  rw [parts_kept] at hc
  obtain ⟨s, hs, rfl⟩ := List.mem_map.1 hc
  have := (List.mem_filter.1 hs).2
  rw [e] at this
  cases this
/-- no sign of it is missing -/
theorem kept_has {fs : List Face} {t : List Int} {z : Int} (h : z ∈ keptP fs t) : havP fs [z] ≠ [] := by
  unfold keptP at h
  obtain ⟨s, hs, hz⟩ := List.mem_flatten.1 h
  have h2 := (List.mem_filter.1 hs).2
  cases e : havP fs s with
  | nil => rw [e] at h2; cases h2
  | cons n ns =>
    have hn : n ∈ havP fs s := by rw [e]; exact List.mem_cons_self ..
    obtain ⟨f, h1, h3⟩ := hav_mem.1 hn
    unfold hasAll at h3
    have := List.all_eq_true.1 h3 z hz
    have hm : n ∈ havP fs [z] := hav_mem.2 ⟨f, h1, by unfold hasAll; rw [List.all_cons, this]; rfl⟩
    intro e2
    rw [e2] at hm
    cases hm
/-- no None is told of it -/
theorem kept_none {fs : List Face} {t : List Int} : none ∉ shownP fs (keptP fs t) := by
  intro h
  obtain ⟨i, hi, e⟩ := List.getElem_of_mem h
  have v := shown_valid fs (keptP fs t)
  have hc : i < (chosen fs (keptP fs t)).length := by rw [← v.1]; exact hi
  have := v.2 i _ none (List.getElem?_eq_getElem hc) (by rw [List.getElem?_eq_getElem hi, e])
  have ne := kept_ne fs t _ (List.getElem_mem hc)
  unfold tell at this
  rw [if_neg ne] at this
  obtain ⟨n, _, e⟩ := List.mem_map.1 this
  cases e
theorem faces_insert {fs : List Face} {x : Face} {p : Nat} (h : FacesOk fs) (hx : FaceOk x) (hl : fs.length ≤ 7) (hn : x.name ∉ fs.map (·.name)) : FacesOk (fs.take p ++ [x] ++ fs.drop p) := by
  have pm : (fs.take p ++ [x] ++ fs.drop p).Perm (x :: fs) := by
    have e : fs.take p ++ [x] ++ fs.drop p = fs.take p ++ x :: fs.drop p := by rw [List.append_assoc]; rfl
    rw [e]
    refine List.perm_middle.trans ?_
    rw [List.take_append_drop]
  refine ⟨by rw [pm.length_eq]; show fs.length + 1 ≤ 8; omega, ?_, fun f hf => ?_⟩
  · rw [(pm.map _).nodup_iff]
    exact List.nodup_cons.2 ⟨hn, h.nd⟩
  · rcases List.mem_cons.1 (pm.mem_iff.1 hf) with rfl | hf
    · exact hx
    · exact h.all f hf
theorem faces_fill {fs : List Face} {k : Nat} {f g : Face} (h : FacesOk fs) (hk : fs[k]? = some f) (hg : FaceOk g) (hn : g.name = f.name) : FacesOk (fs.take k ++ [g] ++ fs.drop (k + 1)) := by
  obtain ⟨hlt, e⟩ := List.getElem?_eq_some_iff.1 hk
  have es : fs = fs.take k ++ f :: fs.drop (k + 1) := by rw [← e, ← List.drop_eq_getElem_cons hlt, List.take_append_drop]
  have enames : (fs.take k ++ [g] ++ fs.drop (k + 1)).map (·.name) = fs.map (·.name) := by
    conv => rhs; rw [es]
    rw [List.map_append, List.map_append, List.map_append, List.append_assoc]
    show _ ++ (g.name :: _) = _ ++ (f.name :: _)
    rw [hn]
    rfl
  refine ⟨?_, by rw [enames]; exact h.nd, fun x hx => ?_⟩
  · have := congrArg List.length enames
    rw [List.length_map, List.length_map] at this
    rw [this]
    exact h.ln
  · rcases List.mem_append.1 hx with hx | hx
    · rcases List.mem_append.1 hx with hx | hx
      · exact h.all x (List.mem_of_mem_take hx)
      · rw [List.mem_singleton.1 hx]; exact hg
    · exact h.all x (List.mem_of_mem_drop hx)
end FF
set_option Elab.async false
set_option linter.all false
set_option maxRecDepth 100000
set_option maxHeartbeats 4000000
/-! the sum of a row's ranks, as laws reckon it -/
namespace FF
open PySem PySem.Spec PyProof.Rows L2
theorem Ev.anyI {R : Rg} {σ : L2.St} {H : Hp} {N N' : Addr → Prop} {te : TE} {i : Int} (h : Ev R te σ H N (.int i)) : Ev R te σ H N' (.int i) := fun H1 e Q q => h H1 e Q fun v H2 e2 r => by
  cases r
  exact q _ H2 e2 (.int _)
theorem e_sum {R : Rg} {K : PySem.W.Frag} {σ : L2.St} {H : Hp} {N N' : Addr → Prop} {te : TE} {ns : List Int} (h : Ev R te σ H N (.list (ns.map .int))) : Ev R (tCB (rSum K) (tCons te tNil)) σ H N' (.int ns.sum) := fun H1 e Q q => h H1 e _ fun v H2 e2 r => by
  obtain ⟨a, xs, rfl, na, ha, ra⟩ := r.listy
  exact ⟨a, ns, rfl, SqL.of (by rw [← ra.ints]; exact ha), q _ H2 e2 (.int _)⟩
theorem out_fun {n : Nat} {F : Nat → Option PyData} {d : PyData} (h : Out n (fun i o => o = F i) d) : d = .list (((List.range n).map F).filterMap id) := by
  obtain ⟨os, hl, hT, rfl⟩ := h
  congr 2
  refine List.ext_getElem? fun k => ?_
  by_cases hk : k < n
  · have e : os[k]? = some os[k] := List.getElem?_eq_getElem (by omega)
    rw [List.getElem?_map, List.getElem?_range hk, e, hT k _ e]
    rfl
  · rw [List.getElem?_eq_none (by omega), List.getElem?_eq_none (by simp; omega)]
theorem range_map_getD {α β : Type} (l : List α) (d : α) (g : α → β) : (List.range l.length).map (fun i => g (l.getD i d)) = l.map g := by
  refine List.ext_getElem? fun k => ?_
  by_cases hk : k < l.length
  · rw [List.getElem?_map, List.getElem?_range hk, List.getElem?_map, List.getElem?_eq_getElem hk]
    show some (g (l.getD k d)) = _
    rw [List.getD_eq_getElem?_getD, List.getElem?_eq_getElem hk]
    rfl
  · rw [List.getElem?_eq_none (by simp; omega), List.getElem?_eq_none (by simp; omega)]
def rkI (fs : List Face) (f : Option Nat) : Option Int := f.map fun n => (fs.getD n default).rank
theorem rk_sum (fs : List Face) : ∀ r : List (Option Nat), (∀ n, some n ∈ r → n < fs.length) → (r.filterMap (rkI fs)).sum = rowK (fs.map (·.rank)) r
  | [], _ => rfl
  | none :: r, h => by
    rw [rowK_cons]
    show (r.filterMap (rkI fs)).sum = 0 + _
    rw [rk_sum fs r fun n hn => h n (List.mem_cons_of_mem _ hn), Int.zero_add]
  | some n :: r, h => by
    have hn := h n (List.mem_cons_self ..)
    rw [rowK_cons]
    show ((fs.getD n default).rank :: r.filterMap (rkI fs)).sum = _
    rw [List.sum_cons, rk_sum fs r fun n hn => h n (List.mem_cons_of_mem _ hn)]
    congr 1
    show _ = (fs.map (·.rank)).getD n 0
    rw [List.getD_eq_getElem?_getD, List.getD_eq_getElem?_getD, List.getElem?_map, List.getElem?_eq_getElem hn]
    rfl
def sp__law_ranks (K : PySem.W.Frag) : Sp := fun vs H Q _ => ∃ (v w : V) (fs : List Face) (r : List (Option Nat)), vs = [v, w] ∧ Dt No H (facesD fs) v ∧ Dt No H (rowD r) w ∧ r.length ≤ 1000 ∧ (∀ n, some n ∈ r → n < fs.length) ∧ ∀ H', Le R0 H H' → Q (.int (rowK (fs.map (·.rank)) r)) H'
/-- slots ['_law_faces_here', '_law_told', '_law_face'] -/
abbrev r__law_ranks (K : PySem.W.Frag) : TS :=
    (tRet (tCB (rSum K) (tCons (tLc (iList K (tVar 1)) (gName 2) (tTest (tOp (rIsN true) (tVar 2) (tC .non))) (tOp (rIx K) (tOp (rIx K) (tVar 0) (tVar 2)) (tC (.int 1))) [2]) tNil)))
theorem e_face_at {R : Rg} {K : PySem.W.Frag} {σ : L2.St} {H : Hp} {N : Addr → Prop} {ta tb : TE} {fs : List Face} {n : Nat} (ha : Ev R ta σ H N (facesD fs)) (hb : Ev R tb σ H N (.int (n : Int))) (hW : ∀ a, R.W a → N a) (hn : n < fs.length) : Ev R (tOp (rIx K) ta tb) σ H N (faceD (fs.getD n default)) :=
  e_ixl ha hb hW (atI_nat (by rw [List.getElem?_map, List.getD_eq_getElem?_getD, List.getElem?_eq_getElem hn]; rfl))
theorem rd__law_ranks {K : PySem.W.Frag} (vs : List V) (H : Hp) (Q : VK) (E : XK) (h : sp__law_ranks K vs H Q E) : r__law_ranks K { nx := fun _ H' => Q .non H', rt := Q } (start ["_law_faces_here", "_law_told", "_law_face"] vs) H := by
  obtain ⟨v, w, fs, r, rfl, hv, hw, rl, hr, k⟩ := h
  have nW : ∀ (N : Addr → Prop) (a : Addr), R0.W a → N a := fun _ _ z => z.elim
  have lr : (r.map oD).length = r.length := List.length_map ..
  have key : EvP R0 (tLc (iList K (tVar 1)) (gName 2) (tTest (tOp (rIsN true) (tVar 2) (tC .non))) (tOp (rIx K) (tOp (rIx K) (tVar 0) (tVar 2)) (tC (.int 1))) [2]) [some v, some w, none] H No (fun d => d = .list ((r.filterMap (rkI fs)).map .int)) := by
    refine (p_lcL (R := R0) (N0 := No) (ds := r.map oD) (fun i o => o = ((r.getD i none).map fun n => PyData.int (fs.getD n default).rank)) (e_var rfl hw (nW _)) (nW _) (by omega) nk0 (fun x => rfl) fun i x u D H1 hD e1 nk1 hi rx => ?_).imp fun d o => ?_
    · rw [List.getElem?_map] at hi
      cases hf : r[i]? with
      | none => rw [hf] at hi; cases hi
      | some f =>
      rw [hf] at hi
      cases hi
      have ef : r.getD i none = f := by rw [List.getD_eq_getElem?_getD, hf]; rfl
      rw [ef]
      have hv1 := hv.le e1 (nW _)
      cases f with
      | none =>
        cases rx
        exact fun H2 e2 Qn Q qn q => (f_det (R := R0) (N := fun a => a = D ∨ No a) (d := .none) (b := false) ((t_cmp (N := No) (e_isN (neg := true) (d := .none) (e_var rfl .non (nW _)))).is rfl) fun z => nomatch z) H2 e2 Qn Q qn q
      | some n =>
        have hn := hr n (List.mem_of_getElem? hf)
        cases rx
        have vf : ∀ {N : Addr → Prop}, Ev R0 (tVar 2) [some v, some w, some (.int (n : Int))] H1 N (.int (n : Int)) := e_vi rfl
        refine fun H2 e2 Qn Q qn q => (f_det (R := R0) (N := fun a => a = D ∨ No a) (d := .int (fs.getD n default).rank) (b := true) ((t_cmp (N := No) (e_isN (neg := true) (d := .int (n : Int)) vf)).is rfl) fun _ => ?_) H2 e2 Qn Q qn q
        exact Ev.anyI (e_ixt (N := No) (i := 1) (e_face_at (e_var (i := 0) rfl hv1 (nW _)) vf (nW _) hn) e_int (nW _) rfl)
    · rw [out_fun o, lr, range_map_getD r none (fun f => f.map fun n => PyData.int (fs.getD n default).rank), List.filterMap_map]
      congr 1
      clear hw lr rl hr k o
      induction r with
      | nil => rfl
      | cons f r ih => cases f with
        | none => exact ih
        | some n => exact congrArg (PyData.int (fs.getD n default).rank :: ·) ih
  refine s_ret (R := R0) (N := No) (d := .int (rowK (fs.map (·.rank)) r)) ((e_sum key.ev).is (by rw [rk_sum fs r hr])) trivial fun u H2 e2 ru => ?_
  cases ru
  exact k H2 e2
end FF
set_option Elab.async false
set_option linter.all false
set_option maxRecDepth 100000
set_option maxHeartbeats 4000000
/-! k11: the law -/
namespace FF
open PySem PySem.Spec PyProof.Rows L2 RT
open GxR (TabB TabG Tabbed)
theorem step_flat (P : List (List Int)) (z : Int) : (partStep P z).flatten = P.flatten ++ [z] := by
  unfold partStep
  by_cases c : z < 800 ∨ P = []
  · rw [if_pos c, List.flatten_append]
    rfl
  · rw [if_neg c]
    have pne : P ≠ [] := fun e => c (.inr e)
    obtain ⟨Q, l, rfl⟩ : ∃ Q l, P = Q ++ [l] := ⟨_, _, (List.dropLast_concat_getLast pne).symm⟩
    simp
theorem parts_flatten (t : List Int) : (partsI t).flatten = t := by
  have go : ∀ (t : List Int) (P : List (List Int)), (t.foldl partStep P).flatten = P.flatten ++ t := fun t => by
    induction t with
    | nil => intro P; rw [List.append_nil]; rfl
    | cons z t ih => intro P; rw [List.foldl_cons, ih, step_flat, List.append_assoc]; rfl
  have := go t []
  rw [List.flatten_nil, List.nil_append] at this
  exact this
def turnedP (t : List Int) : List Int := (partsI t).reverse.flatten
theorem turned_perm (t : List Int) : (turnedP t).Perm t := by
  have h : (turnedP t).Perm (partsI t).flatten := (List.reverse_perm (partsI t)).flatten
  rw [parts_flatten] at h
  exact h
theorem shown_lt {fs : List Face} {t : List Int} {n : Nat} (h : some n ∈ shownP fs t) : n < fs.length := by
  obtain ⟨i, hi, e⟩ := List.getElem_of_mem h
  have v := shown_valid fs t
  have hc : i < (chosen fs t).length := by rw [← v.1]; exact hi
  have := v.2 i _ (some n) (List.getElem?_eq_getElem hc) (by rw [List.getElem?_eq_getElem hi, e])
  unfold tell at this
  split at this
  · cases List.mem_singleton.1 this
  · obtain ⟨g, hg, e⟩ := List.mem_map.1 this
    cases e
    have hm := List.getElem_mem hc
    unfold chosen at hm
    obtain ⟨s, hs, es⟩ := List.mem_map.1 hm
    refine havP_lt (s := s) ?_
    rw [es]
    exact hg
theorem shown_clen (fs : List Face) (t : List Int) : (shownP fs t).length = (chosen fs t).length := (shown_valid fs t).1
section
variable {K : PySem.W.Frag} {C ar as : Addr} {sc : List Int} {T : List Addr} {H : Hp} {σ : L2.St} {N : Addr → Prop} {te tf tw : TE} {fs : List Face} {D : Ends} {tz : TS}
theorem ev_ranks {r : List (Option Nat)} (hf : Ev (Rl K ar as sc T) tf σ H (Wl ar T) (facesD fs)) (hr : Ev (Rl K ar as sc T) te σ H (Wl ar T) (rowD r)) (rl : r.length ≤ 1000) (h : ∀ n, some n ∈ r → n < fs.length) : Ev (Rl K ar as sc T) (tCall (sp__law_ranks K) [] E0 (tCons tf (tCons te tNil))) σ H N (.int (rowK (fs.map (·.rank)) r)) := fun H1 e Q q =>
  hf H1 e _ fun v H2 e2 rv => hr H2 (e.trans e2) _ fun w H3 e3 rw_ => ⟨v, w, fs, r, rfl, (rv.le e3 lw_sub).no, rw_.no, rl, h, fun H4 e4 => q _ H4 ((e2.trans e3).trans (e4.r0l e3.ok)) (.int _)⟩
theorem e_listT {R : Rg} {σ : L2.St} {H : Hp} {N : Addr → Prop} {te : TE} {ds : List PyData} (h : Ev R te σ H N (.tuple ds)) (nk : Nk R N H) : Ev R (tCB (rListU K) (tCons te tNil)) σ H N (.list ds) := fun H1 e Q q =>
  h H1 e _ fun v H2 e2 r => by
    obtain ⟨a1, x1, rfl, hl, ra⟩ := r.tupy
    refine ⟨_, _, rfl, .inr (SqT.of hl), fun p hp => ?_⟩
    obtain ⟨l3, d3⟩ := new_l nk (e.trans e2) hp ra
    exact q _ _ (e2.trans l3) d3
abbrev r11_pop (K : PySem.W.Frag) (j : Nat) : TS := (tWhile (tAnd (tTest (tOp (rNeD K) (tVar j) (tLst tNil))) (tTest (tOp (rI0 fun i j => .bl (decide (j < i))) (tOp (rIx K) (tVar j) (tC (.int 0))) (tC (.int 799))))) (tDrop (tBM K "list" rPopAt (tVar j) (tCons (tC (.int 0)) tNil))))
/-- the marks ahead of all letters are taken out -/
theorem q_pop {H0 : Hp} {a : Addr} {j : Nat} {t : List Int} (hσ : σ[j]? = some (some (.ref a))) (l0 : Le (Rl K ar as sc T) H0 H) (a0 : H0 a = none) (ha : H a = some (.lst (t.map .int))) (tl : t.length ≤ 1000)
    (q : ∀ (u : List Int) (H2 : Hp), u.Sublist t → (∀ x, u.head? = some x → x < 800) → Le (Rl K ar as sc T) H0 H2 → Le ((Rl K ar as sc T).plus a) H H2 → H2 a = some (.lst (u.map .int)) → tz D σ H2) : tSeq (r11_pop K j) tz D σ H := by
  have nW : ¬ Wl ar T a := fun w => by
    obtain ⟨o, z⟩ := wl_dom l0.ok0 a w
    rw [a0] at z
    cases z
  have nR : ¬ (Rl K ar as sc T).W a := nW
  refine ⟨fun m σ' H' => σ' = σ ∧ Le (Rl K ar as sc T) H0 H' ∧ Le ((Rl K ar as sc T).plus a) H H' ∧ ∃ u, m = u.length ∧ u.Sublist t ∧ H' a = some (.lst (u.map .int)), ⟨_, rfl, l0, Le.refl ⟨l0.ok, nR, _, ha⟩, t, rfl, List.Sublist.refl t, ha⟩, ?_⟩
  rintro m σ' H' ⟨rfl, l1, lp, u, rfl, su, hu⟩
  have ul : u.length ≤ t.length := su.length_le
  have lm : (u.map PyData.int).length = u.length := List.length_map ..
  have rv : Dt (Wl ar T) H' (.list (u.map .int)) (.ref a) := .lst nW hu (dta_ints u)
  have okU : okD 1 (.list (u.map PyData.int)) := ok_ints (by omega)
  have t1 : EvT (Rl K ar as sc T) (tTest (tOp (rNeD K) (tVar j) (tLst tNil))) σ' H' (!u.isEmpty) := (t_cmp (N := Wl ar T) (e_ne (d := .list (u.map .int)) (e := .list []) (e_var hσ rv lw_sub) (e_lst a_nil (wl_nk l1.ok) (by decide)) lw_sub (ok_shaped okU (by decide)) shaped_nil)).is (by rw [eqv_empty])
  cases u with
  | nil =>
    refine (t_and (b := true) t1 fun e => by cases e) H' (Le.refl l1.ok) _ fun H2 e2 => ?_
    show tz D σ' H2
    exact q [] H2 (List.nil_sublist t) (fun x hx => by cases hx) (l1.trans e2) (lp.trans (e2.plus nR hu)) (e2.ext a _ nW hu)
  | cons x u =>
    have t2 : EvT (Rl K ar as sc T) (tTest (tOp (rI0 fun i j => .bl (decide (j < i))) (tOp (rIx K) (tVar j) (tC (.int 0))) (tC (.int 799)))) σ' H' (decide (799 < x)) := t_cmp (N := Wl ar T) (e_IB (g := fun i j => decide (j < i)) (e_ixl (i := ((0 : Nat) : Int)) (e_var hσ rv lw_sub) e_int lw_sub (atI_nat rfl)) e_int)
    refine (t_and t1 fun _ => t2) H' (Le.refl l1.ok) _ fun H2 e2 => ?_
    show if (true && decide (799 < x)) = true then _ else _
    have hu2 := e2.ext a _ nW hu
    by_cases c : 799 < x
    · rw [decide_eq_true c]
      refine ⟨fun σ'' H'' => σ'' = σ' ∧ Le (Rl K ar as sc T) H0 H'' ∧ Le ((Rl K ar as sc T).plus a) H H'' ∧ H'' a = some (.lst (u.map .int)), fun σ'' H'' z => ⟨u.length, Nat.lt_succ_self _, z.1, z.2.1, z.2.2.1, u, rfl, ((List.sublist_cons_self x u).trans su), z.2.2.2⟩, ?_⟩
      refine ⟨_, hσ, .inl ⟨rfl, _, SqL.of hu2⟩, a, (x :: u).map .int, 0, 0, .int x, rfl, rfl, hu2, by decide, by decide, ?_, rfl, ?_⟩
      · rw [List.length_map]
        exact seqIndex_of (k := 0) (n := (x :: u).length) (by decide) (by rw [List.length_cons]; omega)
      · exact ⟨rfl, (l1.trans e2).put a0 hu2, (lp.trans (e2.plus nR hu)).setp hu2, upd_same⟩
    · rw [decide_eq_false c]
      show tz D σ' H2
      exact q (x :: u) H2 su (fun y hy => by cases hy; omega) (l1.trans e2) (lp.trans (e2.plus nR hu)) hu2

abbrev r11_back (K : PySem.W.Frag) : TS := (tFor (iRevA K (tCall sp_partedN [] E0 (tCons (tVar 5) tNil))) (gName 8) (tAsg (tOp (rAddU K) (tVar 7) (tCB (rListU K) (tCons (tVar 8) tNil))) (gName 7)))
abbrev r11_ask1 (K : PySem.W.Frag) : TT := (tOr (tTest (tOp (rNeD K) (tCall sp_changes [] E0 (tCons (tVar 9) tNil)) (tCall sp_changes [] E0 (tCons (tVar 10) tNil)))) (tTest (tOp (rNeD K) (tCall (sp__law_ranks K) [] E0 (tCons (tVar 4) (tCons (tVar 9) tNil))) (tCall (sp__law_ranks K) [] E0 (tCons (tVar 4) (tCons (tVar 10) tNil))))))
abbrev r11_ask2 (K : PySem.W.Frag) (C : Addr) (T : List Addr) : TT := (tTest (tOp (rNeD K) (tCall (sp_choices C T) [] E0 (tCons (tVar 6) (tCons (tVar 7) tNil))) (tLstRev K (tCall (sp_choices C T) [] E0 (tCons (tVar 6) (tCons (tVar 5) tNil))))))
abbrev r11_ask3 (K : PySem.W.Frag) (C : Addr) (T : List Addr) : TT := (tTest (tOp (rNeD K) (tCB (rLenU K) (tCons (tCall (sp_reason C T) [] E0 (tCons (tVar 6) (tCons (tVar 7) tNil))) tNil)) (tCB (rLenU K) (tCons (tVar 11) tNil))))
abbrev r11_mir (K : PySem.W.Frag) : TE := (tLc (iRevA K (tVar 11)) (gTup K 2 (gCons (gName 13) (gCons (gName 14) gNil))) tYes (tTup (tCons (tOp (rI0 fun i j => .int (i - j)) (tVar 12) (tVar 14)) (tCons (tOp (rI0 fun i j => .int (i - j)) (tVar 12) (tVar 13)) tNil))) [13, 14])
abbrev r11_ask4 (K : PySem.W.Frag) (C : Addr) (T : List Addr) : TT := (tTest (tOp rNotBl (tCall (sp_holds C T) [] E0 (tCons (tVar 6) (tCons (tVar 7) (tCons (r11_mir K) tNil)))) (tC (.bl true))))
abbrev r11_asks (K : PySem.W.Frag) (C : Addr) (T : List Addr) : TS :=
    (tSeq (tAsg (tCall (sp_shown C T) [] E0 (tCons (tVar 6) (tCons (tVar 5) tNil))) (gName 9))
    (tSeq (tAsg (tCall (sp_shown C T) [] E0 (tCons (tVar 6) (tCons (tVar 7) tNil))) (gName 10))
    (tSeq (tIfS (r11_ask1 K) (tRet (tC (.bl false))) tNext)
    (tSeq (tIfS (r11_ask2 K C T) (tRet (tC (.bl false))) tNext)
    (tSeq (tAsg (tCall (sp_reason C T) [] E0 (tCons (tVar 6) (tCons (tVar 5) tNil))) (gName 11))
    (tSeq (tAsg (tOp (rI0 fun i j => .int (i - j)) (tCB (rLenU K) (tCons (tVar 9) tNil)) (tC (.int 1))) (gName 12))
    (tSeq (tIfS (r11_ask3 K C T) (tRet (tC (.bl false))) tNext)
    (tIfS (r11_ask4 K C T) (tRet (tC (.bl false))) tNext))))))))
/-- the clusters in the other order -/
theorem back11 {y2 y8 y9 y10 y11 y12 y13 y14 : Option V} {s0 vp vf vt vu : V} {cx : Addr} {t : List Int} (ok : (Rl K ar as sc T).I H) (ht : Dt (Wl ar T) H (.list (t.map .int)) vt) (hu : Dt (Wl ar T) H (.list []) vu) (tl : t.length ≤ 200) (hb : badAt t = none)
    (q : ∀ y8 vu H2, Le (Rl K ar as sc T) H H2 → Dt (Wl ar T) H2 (.list ((turnedP t).map .int)) vu → tz D [some s0, some (.ref ar), y2, some vp, some vf, some vt, some (.ref cx), some vu, y8, y9, y10, y11, y12, y13, y14] H2) :
    tSeq (r11_back K) tz D [some s0, some (.ref ar), y2, some vp, some vf, some vt, some (.ref cx), some vu, y8, y9, y10, y11, y12, y13, y14] H := by
  have lm : ((partsI t).map fun c => PyData.tuple (c.map .int)).length = (partsI t).length := List.length_map ..
  have fl : ∀ k : Nat, (((partsI t).reverse.take k).flatten).length ≤ t.length := fun k => by
    have h := congrArg (fun l => l.flatten.length) (List.take_append_drop k (partsI t).reverse)
    rw [List.flatten_append, List.length_append] at h
    have h2 : (turnedP t).length = t.length := (turned_perm t).length_eq
    have h3 : ((partsI t).reverse.flatten).length = t.length := h2
    omega
  refine q_forRev (R := Rl K ar as sc T) (Re := Rl K ar as sc T) (N := Wl ar T) (ev_parted (N := Wl ar T) (e_var rfl ht lw_sub) (by omega) hb (wl_nk ok)) ok lw_sub fun H1 e1 => ⟨fun i σ' H' => (∃ y8 vu, σ' = [some s0, some (.ref ar), y2, some vp, some vf, some vt, some (.ref cx), some vu, y8, y9, y10, y11, y12, y13, y14] ∧ Dt (Wl ar T) H' (.list ((((partsI t).reverse.take i).flatten).map .int)) vu) ∧ Le (Rl K ar as sc T) H1 H', ⟨⟨_, vu, rfl, hu.le e1 lw_sub⟩, Le.refl e1.ok⟩, fun i σ' H' p => p.2, fun i x v σ' H' hx p r => ?_, fun σ' H' p => ?_⟩
  · obtain ⟨⟨y8, vu, rfl, ru⟩, l1⟩ := p
    rw [← List.map_reverse, List.getElem?_map] at hx
    cases hc : (partsI t).reverse[i]? with
    | none => rw [hc] at hx; cases hx
    | some c =>
    rw [hc] at hx
    cases hx
    have hcl : c.length ≤ t.length := by
      have := fl (i + 1)
      rw [take_snoc hc, List.flatten_append, List.length_append] at this
      have e : [c].flatten = c := by simp
      rw [e] at this
      omega
    have := fl i
    refine s_asg (R := Rl K ar as sc T) (N := Wl ar T) (d := .list ((((partsI t).reverse.take (i + 1)).flatten).map .int)) ((e_addl (ds := (((partsI t).reverse.take i).flatten).map .int) (es := c.map .int) (e_var rfl ru lw_sub) (e_listT (e_var rfl r lw_sub) (wl_nk l1.ok)) (by rw [List.length_map, List.length_map]; omega) (wl_nk l1.ok)).is (by rw [take_snoc hc, List.flatten_append, List.map_append]; simp)) l1.ok fun w H2 e2 rw_ => ?_
    exact ⟨⟨_, w, rfl, rw_⟩, l1.trans e2⟩
  · obtain ⟨⟨y8, vu, rfl, ru⟩, l1⟩ := p
    rw [lm, List.take_of_length_le (by rw [List.length_reverse]; exact Nat.le_refl _)] at ru
    exact q _ _ _ (e1.trans l1) ru
theorem sD_ints {sts : List (Int × Int)} {n : Int} : (sts.map sD).reverse = sts.reverse.map sD := by rw [List.map_reverse]
theorem ev_mir {σ : L2.St} {v : V} {sts : List (Int × Int)} {n : Nat} (h11 : σ[11]? = some (some v)) (hl : σ.length = 15) (h12 : σ[12]? = some (some (.int ((n : Int) - 1)))) (hv : Dt (Wl ar T) H (.list (sts.map sD)) v) (sl : sts.length ≤ 1000) (ok : (Rl K ar as sc T).I H) : Ev (Rl K ar as sc T) (r11_mir K) σ H (Wl ar T) (.list ((sts.reverse.map (mir n)).map sD)) := by
  have ls : (sts.map sD).length = sts.length := List.length_map ..
  refine EvP.ev ((p_lcRev (R := Rl K ar as sc T) (N0 := Wl ar T) (fun i o => o = (sts.reverse[i]?).map fun p => sD (mir n p)) (e_var h11 hv lw_sub) lw_sub (by omega) (wl_nk ok) fun i x u Dd H1 hD e1 nk1 hi r => ?_).imp fun d o => ?_)
  · rw [← List.map_reverse, List.getElem?_map] at hi
    cases hp : sts.reverse[i]? with
    | none => rw [hp] at hi; cases hi
    | some p =>
    rw [hp] at hi
    cases hi
    obtain ⟨a, xs, rfl, ha, ra⟩ := Dt.tupy (ds := [.int p.1, .int p.2]) r
    cases ra with
    | cons r1 ra => cases ra with
      | cons r2 ra =>
        cases ra
        cases r1
        cases r2
        refine ⟨((wipe σ [13, 14]).set 13 (some (.int p.1))).set 14 (some (.int p.2)), fun Qs q => ?_, ?_, ?_⟩
        · exact ⟨a, _, rfl, SqT.of ha, rfl, _, _, rfl, _, _, rfl, rfl, q⟩
        · match σ, hl with
          | [_, _, _, _, _, _, _, _, _, _, _, _, _, _, _], _ => rfl
        · match σ, hl, h12 with
          | [_, _, _, _, _, _, _, _, _, _, _, _, y12, _, _], _, h12 =>
            have h12' : y12 = some (.int ((n : Int) - 1)) := by
              have := h12
              exact Option.some.inj this
            subst h12'
            refine f_some (e_tup (ds := [.int ((n : Int) - 1 - p.2), .int ((n : Int) - 1 - p.1)]) (a_cons (e_I0 (g := fun i j => i - j) (e_vi rfl) (e_vi rfl)) (a_one (e_I0 (g := fun i j => i - j) (e_vi rfl) (e_vi rfl))) nk1.sub) nk1.sub (by show 2 ≤ 100000; decide))
  · rw [out_fun o, ls]
    congr 1
    have e : (List.range sts.length).map (fun i => (sts.reverse[i]?).map fun p => sD (mir n p)) = (sts.reverse.map fun p => some (sD (mir n p))) := by
      refine List.ext_getElem? fun k => ?_
      by_cases hk : k < sts.length
      · have hr : sts.reverse[k]? = some (sts.reverse[k]'(by rw [List.length_reverse]; exact hk)) := List.getElem?_eq_getElem _
        rw [List.getElem?_map, List.getElem?_range hk, List.getElem?_map]
        show some ((sts.reverse[k]?).map fun p => sD (mir n p)) = _
        rw [hr]
        rfl
      · rw [List.getElem?_eq_none (by simp; omega), List.getElem?_eq_none (by simp; omega)]
    rw [e, List.filterMap_map, List.map_map]
    induction sts.reverse with
    | nil => rfl
    | cons p r ih => exact congrArg (sD (mir n p) :: ·) ih

theorem asks11 {y2 y8 y9 y10 y11 y12 y13 y14 : Option V} {s0 vp vf vt vu : V} {cx : Addr} {t : List Int} (ok : (Rl K ar as sc T).I H) (hc : CaseAt (Wl ar T) C H cx fs) (hf : Dt (Wl ar T) H (facesD fs) vf) (ht : Dt (Wl ar T) H (.list (t.map .int)) vt) (hu : Dt (Wl ar T) H (.list ((turnedP t).map .int)) vu) (fl : fs.length ≤ 8) (tl : t.length ≤ 200) (hb : badAt t = none) (hb2 : badAt (turnedP t) = none) (hp : ∀ c ∈ partsI t, ClusOk c)
    (q : ∀ y9 y10 y11 y12 H2, Le (Rl K ar as sc T) H H2 → D.nx [some s0, some (.ref ar), y2, some vp, some vf, some vt, some (.ref cx), some vu, y8, y9, y10, y11, y12, y13, y14] H2) :
    r11_asks K C T D [some s0, some (.ref ar), y2, some vp, some vf, some vt, some (.ref cx), some vu, y8, y9, y10, y11, y12, y13, y14] H := by
  have ul : (turnedP t).length = t.length := (turned_perm t).length_eq
  have cu : chosen fs (turnedP t) = (chosen fs t).reverse := chosen_turned hp
  obtain ⟨sh1, sh2⟩ := shown_turned (fs := fs) (t := t) (u := turnedP t) cu
  have cl : (chosen fs t).length ≤ t.length := chosen_len
  have l1 := shown_clen fs t
  have l2 := shown_clen fs (turnedP t)
  rw [cu, List.length_reverse] at l2
  refine q_asg (R := Rl K ar as sc T) (N := Wl ar T) (ev_shown rfl hc (e_var rfl ht lw_sub) fl (by omega) hb (wl_nk ok)) ok fun v9 H1 e1 r9 => ?_
  refine q_asg (R := Rl K ar as sc T) (N := Wl ar T) (ev_shown rfl (hc.le e1 lw_sub) (e_var rfl (hu.le e1 lw_sub) lw_sub) fl (by omega) hb2 (wl_nk e1.ok)) e1.ok fun v10 H2 e2 r10 => ?_
  have e12 := e1.trans e2
  have r9' := r9.le e2 lw_sub
  have t1 : EvT (Rl K ar as sc T) (r11_ask1 K) [some s0, some (.ref ar), y2, some vp, some vf, some vt, some (.ref cx), some vu, y8, some v9, some v10, y11, y12, y13, y14] H2 false := by
    refine EvT.is (a := (!decide (((chg (shownP fs t) : Nat) : Int) = ((chg (shownP fs (turnedP t)) : Nat) : Int)) || !decide (rowK (fs.map (·.rank)) (shownP fs t) = rowK (fs.map (·.rank)) (shownP fs (turnedP t))))) (t_or (t_cmp (N := Wl ar T) ((e_ne (ev_changes (N' := Wl ar T) (e_var rfl r9' lw_sub) (by omega)) (ev_changes (N' := Wl ar T) (e_var rfl r10 lw_sub) (by omega)) lw_sub (shaped_int _) (shaped_int _)).is (by rw [eqv_int]))) fun _ => t_cmp (N := Wl ar T) ((e_ne (ev_ranks (e_var rfl (hf.le e12 lw_sub) lw_sub) (e_var rfl r9' lw_sub) (by omega) fun n hn => shown_lt hn) (ev_ranks (e_var rfl (hf.le e12 lw_sub) lw_sub) (e_var rfl r10 lw_sub) (by omega) fun n hn => shown_lt hn) lw_sub (shaped_int _) (shaped_int _)).is (by rw [eqv_int]))) ?_
    rw [decide_eq_true (by rw [sh1]), decide_eq_true sh2.symm]
    rfl
  refine q_no (R := Rl K ar as sc T) t1 e2.ok fun H3 e3 => ?_
  have e13 := e12.trans e3
  have ok8 : okD 2 (chosenD (chosen fs t).reverse) := ⟨by rw [List.length_map, List.length_reverse]; omega, fun x hx => by
    obtain ⟨c, hcm, rfl⟩ := List.mem_map.mp hx
    have hcm2 := List.mem_reverse.1 hcm
    unfold chosen at hcm2
    obtain ⟨p, hp, rfl⟩ := List.mem_map.mp hcm2
    have := hav_len fs p
    exact ok_nats (by omega) 0⟩
  have er : ((chosen fs t).map natsD).reverse = (chosen fs t).reverse.map natsD := by rw [List.map_reverse]
  have t2 : EvT (Rl K ar as sc T) (r11_ask2 K C T) [some s0, some (.ref ar), y2, some vp, some vf, some vt, some (.ref cx), some vu, y8, some v9, some v10, y11, y12, y13, y14] H3 false := t_cmp (N := Wl ar T) ((e_ne ((ev_choices rfl (hc.le e13 lw_sub) (e_var rfl (hu.le e13 lw_sub) lw_sub) fl (by omega) hb2 (wl_nk e3.ok)).is (by rw [cu])) ((e_listRev (ds := (chosen fs t).map natsD) (ev_choices rfl (hc.le e13 lw_sub) (e_var rfl (ht.le e13 lw_sub) lw_sub) fl (by omega) hb (wl_nk e3.ok)) (wl_nk e3.ok)).is (by rw [er]; rfl)) lw_sub (ok_shaped ok8 (by decide)) (ok_shaped ok8 (by decide))).is (by rw [ok_eqv ok8]; rfl))
  refine q_no (R := Rl K ar as sc T) t2 e3.ok fun H4 e4 => ?_
  have e14 := e13.trans e4
  refine q_asgP (R := Rl K ar as sc T) (N := Wl ar T) (ev_reason rfl (hc.le e14 lw_sub) (e_var rfl (ht.le e14 lw_sub) lw_sub) fl (by omega) hb (wl_nk e4.ok)) e4.ok fun d11 v11 H5 e5 hd11 r11 => ?_
  obtain ⟨f, sts, g, sl, rfl⟩ := hd11
  have gn := greedy_shown g
  have e15 := e14.trans e5
  have ls : (sts.map sD).length = sts.length := List.length_map ..
  have lro : ((shownP fs t).map oD).length = (chosen fs t).length := by rw [List.length_map, l1]
  refine q_asg (R := Rl K ar as sc T) (N := Wl ar T) (d := .int ((((chosen fs t).length : Nat) : Int) - 1)) (e_I0 (g := fun i j => i - j) ((e_lenl (N := Wl ar T) (ds := (shownP fs t).map oD) (e_var rfl (((r9'.le e3 lw_sub).le e4 lw_sub).le e5 lw_sub) lw_sub)).is (by rw [lro])) e_int) e5.ok fun v12 H6 e6 r12 => ?_
  cases r12
  have e16 := e15.trans e6
  have r11' := r11.le e6 lw_sub
  have t3 : EvT (Rl K ar as sc T) (r11_ask3 K C T) [some s0, some (.ref ar), y2, some vp, some vf, some vt, some (.ref cx), some vu, y8, some v9, some v10, some v11, some (.int ((((chosen fs t).length : Nat) : Int) - 1)), y13, y14] H6 false := by
    refine t_cmp (N := Wl ar T) ((e_ne (d := .int (sts.length : Nat)) (e := .int (sts.length : Nat)) (p_len (ev_reason rfl (hc.le e16 lw_sub) (e_var rfl (hu.le e16 lw_sub) lw_sub) fl (by omega) hb2 (wl_nk e6.ok)) fun d hd => ?_) ((e_lenl (N := Wl ar T) (ds := sts.map sD) (e_var rfl r11' lw_sub)).is (by rw [ls])) lw_sub (shaped_int _) (shaped_int _)).is (by rw [eqv_int, decide_eq_true rfl]; rfl))
    obtain ⟨f2, sts2, g2, sl2, rfl⟩ := hd
    have gn2 := greedy_shown g2
    exact ⟨_, rfl, by rw [List.length_map]; omega⟩
  refine q_no (R := Rl K ar as sc T) t3 e6.ok fun H7 e7 => ?_
  have e17 := e16.trans e7
  have hh := (holds_rev (chosen fs t) sts 0 (Int.le_refl _) g.hold).1
  have t4 : EvT (Rl K ar as sc T) (r11_ask4 K C T) [some s0, some (.ref ar), y2, some vp, some vf, some vt, some (.ref cx), some vu, y8, some v9, some v10, some v11, some (.int ((((chosen fs t).length : Nat) : Int) - 1)), y13, y14] H7 false := by
    refine t_cmp (N := Wl ar T) ((e_notTrue ((ev_holds (N' := Wl ar T) rfl (hc.le e17 lw_sub) (e_var rfl (hu.le e17 lw_sub) lw_sub) (ev_mir (n := (chosen fs t).length) rfl rfl rfl (r11'.le e7 lw_sub) (by omega) e7.ok) fl (by omega) (by rw [List.length_map, List.length_reverse]; omega) hb2).is (by rw [cu, hh]))).is (by rfl))
  exact s_if (R := Rl K ar as sc T) t4 e7.ok (fun c => nomatch c) fun _ H8 e8 => q _ _ _ _ H8 (e17.trans e8)
abbrev r11_turn (K : PySem.W.Frag) (C : Addr) (T : List Addr) : TS :=
    (tSeq (tAsg (tCall (sp__law_pool K) [] E0 (tCons (tVar 1) tNil)) (gName 3))
    (tSeq (tAsg (tCall (sp__law_faces K) [] E0 (tCons (tVar 1) (tCons (tVar 3) (tCons (tC (.int 8)) tNil)))) (gName 4))
    (tSeq (tAsg (tCall (sp__law_signs K) [] E0 (tCons (tVar 1) (tCons (tVar 3) (tCons (tC (.int 40)) tNil)))) (gName 5))
    (tSeq (r11_pop K 5)
    (tSeq (tAsg (tMake C (sp_init C T) [] E0 (tCons (tCB (rListU K) (tCons (tVar 4) tNil)) tNil)) (gName 6))
    (tSeq (tAsg (tLst tNil) (gName 7))
    (tSeq (r11_back K)
    (r11_asks K C T))))))))
abbrev r11_law (K : PySem.W.Frag) (C : Addr) (T : List Addr) : TS :=
    (tSeq (tAsg (tLst (tCons (tVar 0) (tCons (tC (.int 0)) (tCons (tC (.int 0)) (tCons (tC (.int 0)) tNil))))) (gName 1))
    (tSeq (tFor (iRng1 (tCons (tC (.int 3)) tNil)) (gName 2) (r11_turn K C T))
    (tRet (tC (.bl true)))))
theorem rd11_law (vs : List V) (H : Hp) (Q : VK) (E : XK) (h : sp2_law K T vs H Q E) : r11_law K C T { nx := fun _ H' => Q .non H', rt := Q } (start ["_law_script", "_law_row", "_law_turn", "_law_pool_here", "_law_faces_here", "_law_text", "_law_case", "_law_turned", "_law_cluster", "_law_one", "_law_other", "_law_told", "_law_far", "_law_first", "_law_last"] vs) H := by
  obtain ⟨as, sc, rfl, hsc, tb, k⟩ := h
  refine ⟨_, rfl, by rw [sizeLine_eq]; simp, fun ar har => ?_⟩
  have ok1 : (Rl K ar as sc T).I (upd H ar (.lst [.ref as, .int 0, .int 0, .int 0])) := ⟨⟨⟨0, 0, 0, Int.le_refl _, upd_same⟩, hsc.imp (fun ⟨o, q⟩ => ⟨o, by rw [upd_ne (fun e => by rw [e, har] at q; cases q)]; exact q⟩) id⟩, rt_upd tb (rt_not tb har)⟩
  show tSeq (tFor (iRng1 (tCons (tC (.int 3)) tNil)) (gName 2) (r11_turn K C T)) (tRet (tC (.bl true))) { nx := fun _ H' => Q .non H', rt := Q } [some (.ref as), some (.ref ar), none, none, none, none, none, none, none, none, none, none, none, none, none] _
  refine q_forZ (R := Rl K ar as sc T) (φ := fun n => n = 3) (fun i σ' H' => (∃ y2 y3 y4 y5 y6 y7 y8 y9 ya yb yc yd ye, σ' = [some (.ref as), some (.ref ar), y2, y3, y4, y5, y6, y7, y8, y9, ya, yb, yc, yd, ye]) ∧ (Rl K ar as sc T).I H') (fun H1 e Q q => q 3 H1 (Le.refl e.ok) rfl) ok1 (fun n q => by rw [q]; decide) (fun n H1 e1 _ => ⟨⟨_, _, _, _, _, _, _, _, _, _, _, _, _, rfl⟩, e1.ok⟩) (fun n i σ' H' hn hi p => ?_) (fun n σ' H' hn p => ?_)
  · obtain ⟨⟨y2, y3, y4, y5, y6, y7, y8, y9, ya, yb, yc, yd, ye, rfl⟩, ok⟩ := p
    refine q_drawn (i3 := 3) (i4 := 4) (i5 := 5) rfl (by decide) (by decide) (by decide) (by show 5 < 15; decide) ok (by decide) (by decide) fun ls ms fs t vp vf vt H4 pok fok tok e4 hvt => ?_
    obtain ⟨a, rfl, a0, ha, rp, rf⟩ := hvt
    show tSeq (r11_pop K 5) _ _ [some (.ref as), some (.ref ar), some (.int (i : Int)), some vp, some vf, some (.ref a), y6, y7, y8, y9, ya, yb, yc, yd, ye] H4
    refine q_pop (a := a) (t := t) rfl e4 a0 ha (by have := tok.2; omega) fun u H5 su hu0 e5 ep hu => ?_
    have pn : ∀ x, ((Rl K ar as sc T).plus a).W x → (x = a ∨ Wl ar T x) := fun x w => by
      rcases w with w | w
      · exact .inr w
      · exact .inl w
    have rf5 : Dt (Wl ar T) H5 (facesD fs) vf := (rf.le ep pn).weak fun x w => .inr w
    have nWa : ¬ Wl ar T a := fun w => by
      obtain ⟨o, z⟩ := wl_dom ok a w
      rw [a0] at z
      cases z
    have ru5 : Dt (Wl ar T) H5 (.list (u.map .int)) (.ref a) := .lst nWa hu (dta_ints u)
    have ul := su.length_le
    have tl := tok.2
    have ub : ∀ z ∈ u, 0 ≤ z ∧ z < 1000 := fun z hz => tok.1 z (su.subset hz)
    have fl := fok.ln
    refine q_case (i := 4) (j := 6) rfl rf5.no fok e5.ok.2 fun cx H6 e6 c6 => ?_
    have e6' : Le (Rl K ar as sc T) H5 H6 := e6.rt e5.ok.1
    have hc6 : CaseAt (Wl ar T) C H6 cx fs := c6.weak (wl_dom e5.ok)
    refine q_asg (R := Rl K ar as sc T) (N := Wl ar T) (d := .list []) (e_lst a_nil (wl_nk e6'.ok) (by decide)) e6'.ok fun v7 H7 e7 r7 => ?_
    have e67 := e6'.trans e7
    refine back11 (t := u) e7.ok (ru5.le e67 lw_sub) r7 (by omega) (sign_none ub) fun y8' vu H8 e8 r8 => ?_
    have e68 := e67.trans e8
    exact asks11 (t := u) (fs := fs) e8.ok ((hc6.le e7 lw_sub).le e8 lw_sub) (rf5.le e68 lw_sub) (ru5.le e68 lw_sub) r8 fl (by omega) (sign_none ub) (sign_none fun z hz => ub z ((turned_perm u).mem_iff.1 hz)) (parts_ok hu0) fun _ _ _ _ H9 e9 => ⟨⟨_, _, _, _, _, _, _, _, _, _, _, _, _, rfl⟩, e9.ok⟩
  · exact k H'
end
end FF
set_option Elab.async false
set_option linter.all false
set_option maxRecDepth 100000
set_option maxHeartbeats 4000000
/-! sorted(set(t)), t a tuple of whole numbers -/
namespace FF
open PySem PySem.Spec PyProof.Rows L2
section
variable {P : Program} {w : World} {A : Around} {E : Value → Shared → Prop} {s : Shared}
set_option maxRecDepth 100000 in
set_option maxHeartbeats 8000000 in
theorem set_of_tints {l : Addr} {xs : Array Value} (ns : List Int) {Q : Value → Shared → Prop} (calm : A.handled = none) (isl : s.heap.IsTuple l xs) (hInts : IntsAre xs.toList ns) (few : ns.length + 1 < scanBound)
    (k : ∀ (g : Heap) (tk c : Nat), SetR w g s.heap.objs.size (fun j => decide (j ∈ ns)) c → (∀ b o, s.heap.get? b = some o → g.get? b = some o) → Q (.ref s.heap.objs.size) { s with heap := g, toks := tk }) :
    wpAny (model P w) A (call (.type "set") [.ref l]) Q E s := by
  have xn : xs.size = ns.length := (Array.length_toList (xs := xs)).symm.trans (IntsAre.length hInts)
  obtain ⟨_, _, mro1⟩ := F.called_set.mro
  have made1 := F.called_set.made
  have sub1 := F.called_set.sub
  refine wpAny_call (codeAny_of_tree ?_)
  show wpAny _ _ (callAny (.type "set") _) _ _ _
  refine wpAny_pure ⟨Code.quiet_builtin _ (by decide +kernel), ?_⟩
  refine codeAny_builtin F.entry_type_call ?_
  rw [Around.under_plain (weight_type_call_type "set" [.ref l] []) rfl]
  have nt := F.called_set.notType
  have cc := F.called_set.canCreate
  have ct := F.typeCall_set_1 (.ref l)
  repeat (any_goals (first | assumption | wp_step))
  refine codeAny_mono (code_set_led1 (.ref l) (E := E) (Q₁ := fun o t => o = .ref s.heap.objs.size ∧ t = { s with heap := s.heap.push (set0 w) }) ⟨rfl, rfl⟩) fun r t hr => ?_
  match r, hr with
  | .error _, hr => exact hr
  | .ok .next, hr => exact hr.elim
  | .ok .brk, hr => exact hr.elim
  | .ok .cont, hr => exact hr.elim
  | .ok (.ret _), ⟨e1, e2⟩ =>
    subst e1; subst e2
    have at0 : (s.heap.push (set0 w)).get? s.heap.objs.size = some (set0 w) := Heap.get?_push_size _ rfl
    have ty0 : Shared.TypeIs { s with heap := s.heap.push (set0 w) } (.ref s.heap.objs.size) "set" := ⟨_, at0, rfl⟩
    have il := F.called_set.init.lookup
    have ib := F.called_set.init.bind (.ref s.heap.objs.size)
    repeat (any_goals (first | assumption | wp_step))
    refine codeAny_mono (codeAny_call_builtin (R := PySem.wants (fun r2 t2 => r2 = .none ∧ ∃ g tk c, t2 = { s with heap := g, toks := tk } ∧ SetR w g s.heap.objs.size (fun j => decide (j ∈ ns)) c ∧
        (∀ b o, s.heap.get? b = some o → g.get? b = some o)) E) F.called_set.init.plain F.entry_set_init (check_set_init_1 ty0 ?_)) fun r2 t2 hr2 => ?_
    · obtain ⟨⟨oc, od, odt, osl⟩, ol, cl, nl, dl⟩ := isl
      simp only at cl dl
      subst cl; subst dl
      have ol1 : (s.heap.push (set0 w)).get? l = some { cls := .type "tuple", dict := od, data := .seq xs nl, slots := osl } := Heap.get?_push_of_some _ ol
      have q1 := F.sub_tuple_set
      have q2 := F.sub_tuple_frozenset
      have q3 : (Value.type "tuple" == Value.type "dict") = false := by decide
      have isl1 : (s.heap.push (set0 w)).IsTuple l xs := ⟨_, ol1, rfl, nl, rfl⟩
      unfold Builtin.«set.__init__» noKeywords Builtin.Frozenset.updateFrom
      generalize hI : pyIter = II
      wp_walk
      subst hI
      refine wpAny_pyIter_tuple isl1 ?_
      refine wpAny_bind (wpAny_runValue ?_)
      have lS : l < s.heap.objs.size := Heap.lt_size ol
      have calm3 : A.in1.in1.in1.handled = none := by simp [calm]
      have sz1 : (s.heap.push (set0 w)).objs.size = s.heap.objs.size + 1 := Heap.size_push ..
      have lne : l ≠ (s.heap.push (set0 w)).objs.size := by rw [sz1]; exact Nat.ne_of_lt (Nat.lt_succ_of_lt lS)
      have sout : s.heap.objs.size ∉ [(s.heap.push (set0 w)).objs.size, l] := by
        rw [sz1]
        simp only [List.mem_cons, List.not_mem_nil, or_false, not_or]
        exact ⟨Nat.ne_of_lt (Nat.lt_succ_self _), Nat.ne_of_gt lS⟩
      have each : ∀ (i : Nat) (v : Value), xs[i]? = some v → ∃ z t, ns[i]? = some z ∧ v = .int z t := fun i v hv => by
        obtain ⟨t, e⟩ := PyProof.Rows.IntsAre.int_at hInts i v (by rw [Array.getElem?_toList]; exact hv)
        have hi : i < ns.length := by rw [← xn]; exact (Array.getElem?_eq_some_iff.mp hv).1
        exact ⟨ns[i], t, List.getElem?_eq_getElem hi, by rw [e, List.getD_eq_getElem?_getD, List.getElem?_eq_getElem hi] <;> rfl⟩
      refine set_update_ints ((Walks.tuple calm3 _ l lne xs).toS) s.heap.objs.size sout ns xn few each (xs.size - 0) 0 _ (by omega) (Nat.zero_le _) ⟨⟨_, Heap.get?_push_size _ rfl, rfl, rfl⟩, (let ⟨o, ho, r⟩ := isl1; ⟨o, Heap.get?_push_of_some _ ho, r⟩)⟩ ?start ?after
      case start => exact ⟨0, Nat.le_refl 0, setR_new_at (Heap.get?_push_of_some _ at0)⟩
      case after =>
        rintro ⟨g, gg, dd, tk, oo⟩ c mv _ hS
        obtain rfl : gg = s.gens := mv.gens
        obtain rfl : dd = s.drawn := mv.drawn
        obtain rfl : oo = s.os := mv.os
        show wpAny _ _ _ _ _ _
        refine wpAny_pure ?_
        show wpAny _ _ (ret Value.none) _ _ _
        refine wpAny_pure ⟨rfl, g, tk, c, rfl, hS, fun b o e => ?_⟩
        have lb := Heap.lt_size e
        refine mv.heap b o ?_ (Heap.get?_push_of_some _ (Heap.get?_push_of_some _ e))
        rw [sz1]
        simp only [List.mem_cons, List.not_mem_nil, or_false, not_or]
        exact ⟨Nat.ne_of_lt lb, Nat.ne_of_lt (Nat.lt_succ_of_lt lb)⟩
    · match r2, hr2 with
      | .error _, hr2 => exact hr2
      | .ok .next, hr2 => exact hr2.elim
      | .ok .brk, hr2 => exact hr2.elim
      | .ok .cont, hr2 => exact hr2.elim
      | .ok (.ret _), ⟨e3, g, tk, c, e4, hS, kp⟩ =>
        subst e3; subst e4
        repeat (any_goals (first | assumption | wp_step))
        exact k _ _ _ hS kp

end
def rSetT (K : PySem.W.Frag) (w : World) : List V → Hp → VK → Prop := fun xs H Q => ∃ (l : Addr) (ns : List Int), xs = [V.ref l] ∧ SqT K H l (ns.map V.int) ∧ ns.length ≤ 1000 ∧
  ∀ a c, H a = none → Q (.ref a) (upd H a (SetO w a (fun j => decide (j ∈ ns)) c))
section
variable {X : Cx}
theorem cr_setT (hc : X.calm = true) : CallR X (.type "set") (rSetT X.K X.w) := by
  intro pins s σ H xs us Q I r h
  obtain ⟨l, ns, rfl, hl, hf, q⟩ := h
  obtain ⟨its, rv, pl, hz⟩ := I.tuple hl
  have hn : H s.heap.objs.size = none := I.hok.fresh (Nat.le_refl _)
  rw [Vals.ref1 r]
  have few : ns.length + 1 < scanBound := Nat.lt_of_le_of_lt (Nat.add_le_add_right hf 1) (by decide)
  refine set_of_tints (P := X.prog) (w := X.w) ns (I.ok.hd hc) pl (by simpa using rv.ints) few fun g tk c R k => ?_
  exact ⟨.ref s.heap.objs.size, _, I.laid (t' := tk) k (Nat.le_refl _) (setO_new R), rfl, q _ c hn⟩
/-- sorted(set(t)) -/
def tSortedTup (K : PySem.W.Frag) (ta : TE) : TE := fun σ H Q => ta σ H fun x H1 => ∃ (l : Addr) (ns : List Int), x = .ref l ∧ SqT K H1 l (ns.map V.int) ∧ ns.length ≤ 1000 ∧
  ∀ (ns' : List Int) (q p : Addr) (o : HO) , ns'.Pairwise (· < ·) → (∀ z : Int, z ∈ ns' ↔ z ∈ ns) → H1 q = none → (upd H1 q o) p = none → Q (.ref p) (upd (upd H1 q o) p (.lst (ns'.map V.int)))
theorem pe_sortedTup {a : Expr} {ta : TE} {p p2 q pos : Pos} (hc : X.calm = true) (hg : Gl X "sorted") (hg2 : Gl X "set") (hm : X.mg "sorted" = none) (hm2 : X.mg "set" = none) (ha : PE X a ta)
    (h1 : starEach [.Call (.Name "set" p2) [a] [] q] X.env = (false, eval (.Call (.Name "set" p2) [a] [] q) X.env) :: starEach [] X.env := by rfl) (h2 : starEach [a] X.env = (false, eval a X.env) :: starEach [] X.env := by rfl) :
    PE X (.Call (.Name "sorted" p) [.Call (.Name "set" p2) [a] [] q] [] pos) (tSortedTup X.K ta) := by
  have ha' : PE X a (fun σ H Q => ∃ Q1 : VK, ta σ H Q1 ∧ ∀ v H', Q1 v H' → Q v H') := ⟨fun pins s σ H Q I ⟨Q1, h, m⟩ =>
    wpAny_mono (ha.run pins s σ H Q1 I h) (fun u s' ⟨v, H', I', r, z⟩ => ⟨v, H', I', r, m v H' z⟩) fun _ _ z => z⟩
  have main := pe_callB (pos := pos) (p := p) (cr_sortSet hc) hg hm (by decide +kernel) (pa_cons (pe_callTy (pos := q) (p := p2) (he := h2) (cr_setT hc) hg2 hm2 (by decide +kernel) (pa_cons ha' pa_nil h2)) pa_nil h1) (he := h1)
  refine ⟨fun pins s σ H Q I h => main.run pins s σ H Q I ⟨_, h, ?_⟩⟩
  rintro x H1 ⟨l, ns, rfl, hl, hz, k⟩
  refine ⟨l, ns, rfl, hl, hz, fun b c hb => ⟨b, _, c, rfl, upd_same, fun ns' r pw mem hr => ?_⟩⟩
  exact k ns' b r _ pw (fun z => (mem z).trans (by simp)) hb hr
end
end FF
set_option Elab.async false
set_option linter.all false
set_option maxRecDepth 100000
set_option maxHeartbeats 4000000
/-! more words of laws: draws, tuples, cases made within a call -/
namespace FF
open PySem PySem.Spec PyProof.Rows L2 RT
open GxR (TabB TabG Tabbed)
section
variable {R : Rg} {K : PySem.W.Frag} {σ : L2.St} {H H' : Hp} {N N' : Addr → Prop} {ta tb te : TE} {φ ψ χ : PyData → Prop}
/-- an operation on what is told loosely, by way of two names -/
theorem p_op2 {r : R2} (ha : EvP R ta σ H N φ) (hb : EvP R tb σ H N ψ) (hW : ∀ a, R.W a → N a)
    (hr : ∀ x y u v H1, φ x → ψ y → Le R H H1 → Dt N H1 x u → Dt N H1 y v → EvP R (tOp r (tVar 0) (tVar 1)) [some u, some v] H1 N χ) : EvP R (tOp r ta tb) σ H N χ := fun H1 e Q q =>
  ha H1 e _ fun x u H2 e2 px rx => hb H2 (e.trans e2) _ fun y v H3 e3 py ry => by
    obtain ⟨u', hu, v', hv, k⟩ := hr x y u v H3 px py ((e.trans e2).trans e3) (rx.le e3 hW) ry H3 (Le.refl e3.ok) Q fun d w H4 e4 pd rd => q d w H4 ((e2.trans e3).trans e4) pd rd
    cases hu
    cases hv
    exact k
theorem e_addt {ds es : List PyData} (ha : Ev R ta σ H N (.tuple ds)) (hb : Ev R tb σ H N (.tuple es)) (hW : ∀ a, R.W a → N a) (h1 : ds ≠ []) (h2 : es ≠ []) (hz : ds.length + es.length ≤ 100000) : Ev R (tOp (rAddU K) ta tb) σ H N (.tuple (ds ++ es)) := fun H1 e Q q =>
  ha H1 e _ fun u H2 e2 ru => hb H2 (e.trans e2) _ fun v H3 e3 rv => by
    obtain ⟨a1, x1, rfl, g1, r1⟩ := (ru.le e3 hW).tupy
    obtain ⟨a2, x2, rfl, g2, r2⟩ := rv.tupy
    have n1 : x1 ≠ [] := fun z => h1 (by rw [z] at r1; cases r1; rfl)
    have n2 : x2 ≠ [] := fun z => h2 (by rw [z] at r2; cases r2; rfl)
    refine .inr (.inr (.inr ⟨a1, a2, x1, x2, rfl, rfl, SqT.of g1, SqT.of g2, n1, ?_, fun z => absurd z n2, fun _ p hp => ?_⟩))
    · rw [r1.length, r2.length]
      exact Evl.sz_of hz
    · obtain ⟨l4, d4⟩ := new_t hW e3.ok hp (r1.append r2)
      exact q _ _ ((e2.trans e3).trans l4) d4
theorem e_catA {ds es : List PyData} (ha : Ev R ta σ H N (.tuple ds)) (hb : Ev R tb σ H N (.tuple es)) (hW : ∀ a, R.W a → N a) (hz : ds.length + es.length ≤ 100000) : Ev R (tOp (rCatA K) ta tb) σ H N (.tuple (ds ++ es)) := fun H1 e Q q =>
  ha H1 e _ fun u H2 e2 ru => hb H2 (e.trans e2) _ fun v H3 e3 rv => by
    obtain ⟨a1, x1, rfl, g1, r1⟩ := (ru.le e3 hW).tupy
    obtain ⟨a2, x2, rfl, g2, r2⟩ := rv.tupy
    refine ⟨a1, a2, x1, x2, rfl, rfl, SqT.of g1, SqT.of g2, ?_, fun z => ?_, fun _ z => ?_, fun _ _ p hp => ?_⟩
    · rw [r1.length, r2.length]
      exact Evl.sz_of hz
    · subst z
      cases r1
      exact q _ _ (e2.trans e3) rv
    · subst z
      cases r2
      rw [List.append_nil] at q
      exact q _ _ (e2.trans e3) (ru.le e3 hW)
    · obtain ⟨l4, d4⟩ := new_t hW e3.ok hp (r1.append r2)
      exact q _ _ ((e2.trans e3).trans l4) d4
theorem e_sltU {tl th : TO} {ds : List PyData} {lo hi : Option Int} (h : Ev R te σ H N (.tuple ds)) (h1 : EvO R tl σ H lo) (h2 : EvO R th σ H hi) (hW : ∀ a, R.W a → N a) (hw : ¬ (HT.sIx ds.length 0 lo = 0 ∧ HT.sIx ds.length ds.length hi = ds.length)) : Ev R (tSl (rSlU K) te tl th) σ H N (.tuple (cutD ds lo hi)) := fun H1 e Q q =>
  h H1 e _ fun v H2 e2 r => h1 H2 (e.trans e2) _ fun H3 e3 => h2 H3 ((e.trans e2).trans e3) _ fun H4 e4 => by
    obtain ⟨a1, x1, rfl, hl, ra⟩ := (r.le (e3.trans e4) hW).tupy
    refine .inr (.inl ⟨a1, x1, rfl, SqT.of hl, by rw [ra.length]; exact hw, fun p hp => ?_⟩)
    obtain ⟨l5, d5⟩ := new_t hW e4.ok hp (ra.cut lo hi)
    exact q _ _ (((e2.trans e3).trans e4).trans l5) d5
theorem cutD_take (xs : List PyData) {p : Nat} (h : p ≤ xs.length) : cutD xs none (some (p : Int)) = xs.take p := by
  unfold cutD
  rw [HT.sIx_none, HT.sIx_nat, Nat.min_eq_left h, List.drop_zero, Nat.sub_zero]
theorem cutD_drop (xs : List PyData) {p : Nat} (h : p ≤ xs.length) : cutD xs (some (p : Int)) none = xs.drop p := by
  unfold cutD
  rw [HT.sIx_none, HT.sIx_nat, Nat.min_eq_left h, List.take_of_length_le]
  rw [List.length_drop]
  exact Nat.le_refl _
theorem p_ssetT {ns : List Int} (h : Ev R te σ H N (.tuple (ns.map .int))) (hz : ns.length ≤ 1000) (nk : Nk R N H) : EvP R (tSortedTup K te) σ H N (fun d => ∃ ns' : List Int, d = .list (ns'.map .int) ∧ ns'.Pairwise (· < ·) ∧ ∀ z, z ∈ ns' ↔ z ∈ ns) := fun H1 e Q q =>
  h H1 e _ fun v H2 e2 r => by
    obtain ⟨a, xs, rfl, hl, ra⟩ := r.tupy
    have ex := ra.ints
    subst ex
    refine ⟨a, ns, rfl, SqT.of hl, hz, fun ns' b p o pw mem hb hp => ?_⟩
    have l3 : Le R H2 (upd H2 b o) := Le.new hb e2.ok
    obtain ⟨l4, d4⟩ := new_l (ds := ns'.map .int) (nk.le (e.trans e2)) l3 hp (dta_ints ns')
    exact q _ _ _ ((e2.trans l3).trans l4) ⟨ns', rfl, pw, mem⟩ d4
theorem p_tuple (h : EvP R te σ H N (fun d => ∃ ds, d = .list ds ∧ φ (.tuple ds))) (hW : ∀ a, R.W a → N a) : EvP R (tCB (rTupU K) (tCons te tNil)) σ H N φ := fun H1 e Q q =>
  h H1 e _ fun d v H2 e2 p r => by
    obtain ⟨ds, rfl, hp⟩ := p
    obtain ⟨a1, x1, rfl, n1, hl, ra⟩ := r.listy
    refine ⟨_, _, rfl, .inl ⟨SqL.of hl, fun p hp' => ?_⟩⟩
    obtain ⟨l3, d3⟩ := new_t hW e2.ok hp' ra
    exact q _ _ _ (e2.trans l3) hp d3
/-- None in a row of numbers and None -/
theorem row_flat : ∀ {r : List (Option Nat)} {vs : List V}, DtA N H (r.map oD) vs → vs.all flatV = true ∧ inV .non vs = decide (none ∈ r)
  | [], _, .nil => ⟨rfl, rfl⟩
  | none :: r, _, .cons h t => by
    obtain ⟨h1, h2⟩ := row_flat t
    cases h
    refine ⟨by rw [List.all_cons, h1]; rfl, ?_⟩
    rw [decide_eq_true (List.mem_cons_self ..)]
    rfl
  | some n :: r, _, .cons h t => by
    obtain ⟨h1, h2⟩ := row_flat t
    cases h
    refine ⟨by rw [List.all_cons, h1]; rfl, ?_⟩
    have e : decide (none ∈ (some n :: r)) = decide (none ∈ r) := decide_eq_decide.2 (by simp)
    rw [e, ← h2]
    rfl
theorem e_noneIn {r : List (Option Nat)} (h : Ev R te σ H N (rowD r)) : Ev R (tOp (rInU K false) (tC .non) te) σ H N' (.bool (decide (none ∈ r))) := fun H1 e Q q =>
  h H1 e _ fun v H2 e2 rv => by
    obtain ⟨p, xs, rfl, na, hp, ra⟩ := rv.listy
    obtain ⟨h1, h2⟩ := row_flat ra
    refine .inl ⟨p, _, rfl, .inl (SqL.of hp), rfl, h1, ?_⟩
    show Q (.bl (inV .non xs)) H2
    rw [h2]
    exact q _ H2 e2 (.bl _)
end
section
variable {K : PySem.W.Frag} {C ar as : Addr} {sc : List Int} {T : List Addr} {H : Hp} {σ : L2.St} {N : Addr → Prop} {te tf tb ta : TE} {i : Nat} {fs : List Face} {t : List Int} {D : Ends} {tz : TS}
theorem z_drL {i : Nat} {many : Int} (hσ : σ[i]? = some (some (.ref ar))) (hm : Ev (Rl K ar as sc T) tb σ H N (.int many)) (h0 : 0 < many) (h1 : many < 1000000000) : EvZ (Rl K ar as sc T) (tCall (sp__law_taken K) [] E0 (tCons (tVar i) (tCons tb tNil))) σ H (fun z => 0 ≤ z ∧ z < many) := fun H1 e Q q =>
  ⟨_, hσ, hm H1 e _ fun v H2 e2 r => by
    cases r
    exact ⟨ar, as, sc, many, rfl, e2.ok.1, h0, h1, fun z H3 z0 z1 e3 => q z H3 (e2.trans (e3.rr e2.ok.2)) ⟨z0, z1⟩⟩⟩
theorem ev_clusters {N1 : Addr → Prop} (ht : Ev (Rl K ar as sc T) te σ H N1 (.list (t.map .int))) (tl : t.length ≤ 1000) (nk : Nk (Rl K ar as sc T) N H) : Ev (Rl K ar as sc T) (tCall (sp__law_clusters K) [] E0 (tCons te tNil)) σ H N (.list ((clusP t).map pairD)) := fun H1 e Q q =>
  ht H1 e _ fun v H2 e2 rv => ⟨v, t, rfl, rv.no, tl, fun u H3 e3 ru => q u H3 (e2.trans (Le.of_ex e3 e2.ok)) (ru.weak (nk.le (e.trans e2)).domle)⟩
theorem ev_having {N2 : Addr → Prop} {s : List Int} (hf : Ev (Rl K ar as sc T) tf σ H (Wl ar T) (facesD fs)) (ht : Ev (Rl K ar as sc T) te σ H N2 (.list (s.map .int))) (fl : fs.length ≤ 1000) (sl : s.length ≤ 1000) (nk : Nk (Rl K ar as sc T) N H) : Ev (Rl K ar as sc T) (tCall (sp__law_having K) [] E0 (tCons tf (tCons te tNil))) σ H N (natsD (havP fs s)) := fun H1 e Q q =>
  hf H1 e _ fun v H2 e2 rv => ht H2 (e.trans e2) _ fun w H3 e3 rw_ => ⟨v, w, fs, s, rfl, (rv.le e3 lw_sub).no, rw_.no, fl, sl, fun u H4 e4 ru => q u H4 ((e2.trans e3).trans (Le.of_ex e4 e3.ok)) (ru.weak (nk.le ((e.trans e2).trans e3)).domle)⟩
theorem ev_names {many : Int} (hσ : σ[i]? = some (some (.ref ar))) (h0 : 0 ≤ many ∧ many ≤ 8) (nk : Nk (Rl K ar as sc T) N H) : EvP (Rl K ar as sc T) (tCall (sp__law_names K) [] E0 (tCons (tVar i) (tCons (tC (.int many)) tNil))) σ H N (fun d => ∃ ns : List Str, d = .list (ns.map .str) ∧ NamesOk ns ∧ (ns.length : Int) = many) := fun H1 e Q q =>
  ⟨_, hσ, ar, as, sc, many, rfl, e.ok.1, h0.1, h0.2, fun ns v H2 nok nl e2 r => q _ v H2 (e2.rr e.ok.2) ⟨ns, rfl, nok, nl⟩ (r.weak (nk.le e).domle)⟩
/-- a case made within a call, and what it shows -/
theorem ev_shownMk (hm : Ev (Rl K ar as sc T) ta σ H (Wl ar T) (facesD fs)) (hf : FacesOk fs) (ht : Ev (Rl K ar as sc T) te σ H (Wl ar T) (.list (t.map .int))) (tl : t.length ≤ 1000) (hb : badAt t = none) (nk : Nk (Rl K ar as sc T) N H) : Ev (Rl K ar as sc T) (tCall (sp_shown C T) [] E0 (tCons (tMake C (sp_init C T) [] E0 (tCons ta tNil)) (tCons te tNil))) σ H N (rowD (shownP fs t)) := fun H1 e Q q =>
  hm H1 e _ fun v H2 e2 rv => by
    intro x dx hx hdx ne
    have ok2 := e2.ok.2
    have l2 : Le (Rt T) H2 (upd H2 dx (.own x)) := Le.new hdx ok2
    have hx2 : upd H2 dx (.own x) x = none := by rw [upd_ne ne.symm]; exact hx
    have l3 : Le (Rt T) H2 (upd (upd H2 dx (.own x)) x (.ins C dx [])) := l2.trans (Le.new hx2 l2.ok)
    refine ⟨x, dx, v, fs, rfl, (rv.le l3 fun a w => .inr w).no, upd_same, hf.ln, faces_short hf, faces_ok hf, l3.ok, fun H3 l ys e3 hl h3 r => ⟨rfl, ?_⟩⟩
    have lx : l ≠ x := fun z => by rw [z, upd_same] at hl; cases hl
    have l4 := (l3.trans e3).putT (o := .ins C dx [("_faces", .ref l)]) hx
    have hl0 : H2 l = none := l3.back l hl
    have cas : CaseAt (Dom H2) C (upd H3 x (.ins C dx [("_faces", .ref l)])) x fs := by
      refine ⟨dx, l, ys, (fun ⟨o, z⟩ => by rw [hx] at z; cases z), (fun ⟨o, z⟩ => by rw [hl0] at z; cases z), upd_same, by rw [upd_ne lx]; exact h3, ?_⟩
      refine faces_any (N := fun a => a = x) (DtA.mono (fun _ z => z) (fun b zs n hb => by rw [upd_ne n]; exact hb) (fun b zs hb => ?_) (faces_any (N' := fun a => a = x) r))
      have xT : ¬ (Rt T).W x := rt_not ok2 hx
      have h1x := e3.ext x _ xT upd_same
      rw [upd_ne (fun z => by rw [z, h1x] at hb; cases hb)]
      exact hb
    have e4 : Le (Rl K ar as sc T) H2 (upd H3 x (.ins C dx [("_faces", .ref l)])) := l4.rt e2.ok.1
    have cas2 : CaseAt (Wl ar T) C (upd H3 x (.ins C dx [("_faces", .ref l)])) x fs := cas.weak (wl_dom e2.ok)
    refine ht _ ((e.trans e2).trans e4) _ fun w H5 e5 rw_ => ⟨x, w, fs, t, rfl, (cas2.le e5 lw_sub).weak (fun a z => z.elim), rw_.no, by have := hf.ln; omega, tl, hb, e5.ok.2, fun u H6 e6 ru => q u H6 (((e2.trans e4).trans e5).trans (e6.rt e5.ok.1)) (ru.weak (nk.le (((e.trans e2).trans e4).trans e5)).domle)⟩
end
end FF
set_option Elab.async false
set_option linter.all false
set_option maxRecDepth 100000
set_option maxHeartbeats 4000000
/-! k12: the law, in pieces -/
namespace FF
open PySem PySem.Spec PyProof.Rows L2 RT
open GxR (TabB TabG Tabbed)
/-- faces under other names -/
def renamed (ns : List Str) (gs : List Face) : List Face := (List.range gs.length).map fun k => ⟨ns.getD k "", (gs.getD k default).rank, (gs.getD k default).signs⟩
theorem renamed_len (ns : List Str) (gs : List Face) : (renamed ns gs).length = gs.length := by unfold renamed; rw [List.length_map, List.length_range]
theorem getD_mem {α : Type} {l : List α} {d : α} {k : Nat} (h : k < l.length) : l.getD k d ∈ l := by
  rw [List.getD_eq_getElem?_getD, List.getElem?_eq_getElem h]
  exact List.getElem_mem h
theorem names_take (ns : List Str) (n : Nat) (h : n ≤ ns.length) : ((List.range n).map fun k => ns.getD k "") = ns.take n := by
  refine List.ext_getElem? fun k => ?_
  by_cases hk : k < n
  · rw [List.getElem?_map, List.getElem?_range hk, List.getElem?_take_of_lt hk, List.getElem?_eq_getElem (by omega)]
    show some (ns.getD k "") = _
    rw [List.getD_eq_getElem?_getD, List.getElem?_eq_getElem (by omega)]
    rfl
  · rw [List.getElem?_eq_none (by simp; omega), List.getElem?_eq_none (by rw [List.length_take]; omega)]
theorem renamed_names {ns : List Str} {gs : List Face} (h : gs.length ≤ ns.length) : (renamed ns gs).map (·.name) = ns.take gs.length := by
  unfold renamed
  rw [List.map_map]
  exact names_take ns gs.length h
theorem renamed_ok {ns : List Str} {gs : List Face} (hn : NamesOk ns) (h : gs.length ≤ ns.length) (hg : FacesOk gs) : FacesOk (renamed ns gs) := by
  refine ⟨by rw [renamed_len]; exact hg.ln, ?_, fun f hf => ?_⟩
  · rw [renamed_names h]
    exact hn.1.sublist (List.take_sublist ..)
  · unfold renamed at hf
    obtain ⟨k, hk, rfl⟩ := List.mem_map.1 hf
    have hk := List.mem_range.1 hk
    have ok := hg.all _ (getD_mem (d := default) hk)
    exact ⟨hn.2 _ (getD_mem (by omega)), ok.rk, ok.up, ok.rg, ok.ln⟩
theorem renamed_signs {ns : List Str} {gs : List Face} {p : Int → Prop} (h : ∀ f ∈ gs, ∀ z ∈ f.signs, p z) : ∀ f ∈ renamed ns gs, ∀ z ∈ f.signs, p z := fun f hf z hz => by
  unfold renamed at hf
  obtain ⟨k, hk, rfl⟩ := List.mem_map.1 hf
  exact h _ (getD_mem (List.mem_range.1 hk)) z hz
section
variable {K : PySem.W.Frag} {C ar as : Addr} {sc : List Int} {T : List Addr} {H : Hp} {D : Ends} {tz : TS}
abbrev r12_faces (K : PySem.W.Frag) : TE := (tLc (iRng1 (tCons (tCB (rLenU K) (tCons (tVar 5) tNil)) tNil)) (gName 17) tYes (tOp (rAddU K) (tTup (tCons (tOp (rIx K) (tVar 4) (tVar 17)) tNil)) (tSl (rSlU K) (tOp (rIx K) (tVar 5) (tVar 17)) (tPart (tC (.int 1))) tNoPart)) [17])
theorem e_len1 {R : Rg} {σ : L2.St} {N : Addr → Prop} {te : TE} {n : Int} (h : Ev R te σ H N (.int n)) : ∀ H1, Le R H H1 → ∀ Q : List V → Hp → Prop, (∀ H2, Le R H1 H2 → Q [.int n] H2) → tCons te tNil σ H1 Q := fun H1 e Q q => h H1 e _ fun v H2 e2 r => by
  cases r
  exact q H2 e2
theorem e_renamed {R : Rg} {σ : L2.St} {N : Addr → Prop} {vn vg : V} {x17 : Option V} {ns : List Str} {gs : List Face} {i : Nat} (h4 : σ[4]? = some (some vn)) (h5 : σ[5]? = some (some vg)) (h17 : σ[17]? = some (some (.int (i : Int)))) (hn : Dt N H (.list (ns.map .str)) vn) (hg : Dt N H (facesD gs) vg) (hW : ∀ a, R.W a → N a) (hi : i < gs.length) (hl : gs.length ≤ ns.length) :
    Ev R (tOp (rAddU K) (tTup (tCons (tOp (rIx K) (tVar 4) (tVar 17)) tNil)) (tSl (rSlU K) (tOp (rIx K) (tVar 5) (tVar 17)) (tPart (tC (.int 1))) tNoPart)) σ H N (faceD ⟨ns.getD i "", (gs.getD i default).rank, (gs.getD i default).signs⟩) :=
  (e_addt (ds := [.str (ns.getD i "")]) (es := [.int (gs.getD i default).rank, .tuple ((gs.getD i default).signs.map .int)]) (e_tup (a_one (e_ixl (e_var h4 hn hW) (e_vi h17) hW (atI_nat (by rw [List.getElem?_map, List.getD_eq_getElem?_getD, List.getElem?_eq_getElem (by omega)]; rfl)))) hW (by show 1 ≤ 100000; decide)) (e_sltU (ds := [.str (gs.getD i default).name, .int (gs.getD i default).rank, .tuple ((gs.getD i default).signs.map .int)]) (e_face_at (e_var h5 hg hW) (e_vi h17) hW hi) (o_some e_int) o_none hW (by show ¬ (HT.sIx 3 0 (some 1) = 0 ∧ HT.sIx 3 3 none = 3); decide)) hW (by simp) (by simp) (by show 1 + 2 ≤ 100000; decide))
theorem ev_faces12 {σ : L2.St} {vn vg : V} {ns : List Str} {gs : List Face} (h4 : σ[4]? = some (some vn)) (h5 : σ[5]? = some (some vg)) (hl : σ.length = 22) (hn : Dt (Wl ar T) H (.list (ns.map .str)) vn) (hg : Dt (Wl ar T) H (facesD gs) vg) (gl : gs.length ≤ 8) (nl : gs.length ≤ ns.length) (ok : (Rl K ar as sc T).I H) : Ev (Rl K ar as sc T) (r12_faces K) σ H (Wl ar T) (facesD (renamed ns gs)) := by
  have lg : (gs.map faceD).length = gs.length := List.length_map ..
  refine EvP.ev ((p_lcR (n := (gs.length : Nat)) (fun i o => o = some (faceD ⟨ns.getD i "", (gs.getD i default).rank, (gs.getD i default).signs⟩)) (e_len1 (N := Wl ar T) ((e_lenl (N := Wl ar T) (ds := gs.map faceD) (e_var h5 hg lw_sub)).is (by rw [lg]))) (by omega) (wl_nk ok) (fun x => ?_) fun i Dd H1 hD e1 nk1 hi => ?_).imp fun d o => ?_)
  · match σ, hl with
    | [_, _, _, _, _, _, _, _, _, _, _, _, _, _, _, _, _, _, _, _, _, _], _ => rfl
  · match σ, hl, h4, h5 with
    | [_, _, _, _, y4, y5, _, _, _, _, _, _, _, _, _, _, _, _, _, _, _, _], _, h4, h5 =>
      have h4' : y4 = some vn := Option.some.inj h4
      have h5' : y5 = some vg := Option.some.inj h5
      subst h4'
      subst h5'
      have sub1 : ∀ a, (Rl K ar as sc T).W a → (a = Dd ∨ Wl ar T a) := nk1.sub
      exact f_some (e_renamed (x17 := none) rfl rfl rfl ((hn.more hD).le e1 sub1) ((hg.more hD).le e1 sub1) sub1 (by omega) nl)
  · rw [out_fun o]
    show PyData.list (((List.range ((gs.length : Nat) : Int).toNat).map _).filterMap id) = _
    rw [Int.toNat_natCast]
    unfold facesD renamed
    rw [List.map_map]
    congr 1
    generalize List.range gs.length = l
    induction l with
    | nil => rfl
    | cons a l ih => exact congrArg (_ :: ·) ih
abbrev r12_text (K : PySem.W.Frag) : TS := (tFor (iList K (tCall (sp__law_clusters K) [] E0 (tCons (tVar 7) tNil))) (gTup K 2 (gCons (gName 9) (gCons (gName 10) gNil))) (tIfS (tTest (tOp (rNeD K) (tCall (sp__law_having K) [] E0 (tCons (tVar 6) (tCons (tSl (rSlU K) (tVar 7) (tPart (tVar 9)) (tPart (tVar 10))) tNil))) (tLst tNil))) (tAsg (tOp (rAddU K) (tVar 8) (tSl (rSlU K) (tVar 7) (tPart (tVar 9)) (tPart (tVar 10)))) (gName 8)) tNext))
def keptN (fs : List Face) (t : List Int) (i : Nat) : List Int := (((partsI t).take i).filter fun s => !(havP fs s).isEmpty).flatten
theorem keptN_all (fs : List Face) (t : List Int) : keptN fs t (partsI t).length = keptP fs t := by unfold keptN keptP; rw [List.take_length]
theorem keptN_len (fs : List Face) (t : List Int) (i : Nat) : (keptN fs t i).length ≤ t.length := by
  have h : (keptN fs t i).Sublist (partsI t).flatten := by
    have h1 : (((partsI t).take i).filter fun s => !(havP fs s).isEmpty).Sublist (partsI t) := List.filter_sublist.trans (List.take_sublist ..)
    unfold keptN
    generalize (((partsI t).take i).filter fun s => !(havP fs s).isEmpty) = l at h1
    generalize partsI t = m at h1
    induction h1 with
    | slnil => exact List.Sublist.refl _
    | cons a _ ih => exact ih.trans (List.sublist_append_right ..)
    | cons_cons a _ ih => exact (List.Sublist.refl a).append ih
  rw [parts_flatten] at h
  exact h.length_le
theorem keptN_mem {fs : List Face} {t : List Int} {z : Int} (h : z ∈ keptP fs t) : z ∈ t := by
  unfold keptP at h
  obtain ⟨s, hs, hz⟩ := List.mem_flatten.1 h
  have : z ∈ (partsI t).flatten := List.mem_flatten.2 ⟨s, (List.mem_filter.1 hs).1, hz⟩
  rw [parts_flatten] at this
  exact this
/-- the text of the clusters that some face has -/
theorem text12 {x2 x3 x4 x5 y9 y10 y11 y12 y13 y14 y15 y16 y17 y18 y19 y20 y21 : Option V} {s0 vf vs v8 : V} {fs : List Face} {t : List Int} (ok : (Rl K ar as sc T).I H) (hf : Dt (Wl ar T) H (facesD fs) vf) (ht : Dt (Wl ar T) H (.list (t.map .int)) vs) (h8 : Dt (Wl ar T) H (.list []) v8) (fl : fs.length ≤ 8) (tl : t.length ≤ 200)
    (q : ∀ y9 y10 v8 H2, Le (Rl K ar as sc T) H H2 → Dt (Wl ar T) H2 (.list ((keptP fs t).map .int)) v8 → tz D [some s0, some (.ref ar), x2, x3, x4, x5, some vf, some vs, some v8, y9, y10, y11, y12, y13, y14, y15, y16, y17, y18, y19, y20, y21] H2) :
    tSeq (r12_text K) tz D [some s0, some (.ref ar), x2, x3, x4, x5, some vf, some vs, some v8, y9, y10, y11, y12, y13, y14, y15, y16, y17, y18, y19, y20, y21] H := by
  have lc := clusP_len t
  have lm : ((clusP t).map pairD).length = (partsI t).length := by rw [List.length_map, parts_clen]
  refine q_forLeG (R := Rl K ar as sc T) (Re := Rl K ar as sc T) (N := Wl ar T) (ev_clusters (N1 := Wl ar T) (e_var rfl ht lw_sub) (by omega) (wl_nk ok)) ok lw_sub fun H1 e1 => ⟨fun i σ' H' => (∃ y9 y10 v8, σ' = [some s0, some (.ref ar), x2, x3, x4, x5, some vf, some vs, some v8, y9, y10, y11, y12, y13, y14, y15, y16, y17, y18, y19, y20, y21] ∧ Dt (Wl ar T) H' (.list ((keptN fs t i).map .int)) v8) ∧ Le (Rl K ar as sc T) H1 H', ⟨⟨_, _, v8, rfl, h8.le e1 lw_sub⟩, Le.refl e1.ok⟩, fun i σ' H' p => p.2, fun i x v σ' H' hx p r => ?_, fun σ' H' p => ?_⟩
  · obtain ⟨⟨y9, y10, v8, rfl, r8⟩, l1⟩ := p
    rw [List.getElem?_map] at hx
    cases hp : (clusP t)[i]? with
    | none => rw [hp] at hx; cases hx
    | some p =>
    rw [hp] at hx
    cases hx
    obtain ⟨pb, pe⟩ := p
    have hpart : (partsI t)[i]? = some (cutT t (pb, pe)) := by rw [← parts_clus _ t rfl, List.getElem?_map, hp]; rfl
    obtain ⟨h1, h2⟩ := clusP_ok t (pb, pe) (List.mem_of_getElem? hp)
    obtain ⟨a, xs, rfl, ha, ra⟩ := Dt.tupy (ds := [.int (pb : Nat), .int (pe : Nat)]) r
    cases ra with
    | cons r1 ra => cases ra with
      | cons r2 ra =>
        cases ra
        cases r1
        cases r2
        refine ⟨a, _, rfl, SqT.of ha, rfl, _, _, rfl, _, _, rfl, rfl, ?_⟩
        have l01 := e1.trans l1
        have sl : ∀ {H2 : Hp}, Le (Rl K ar as sc T) H' H2 → Ev (Rl K ar as sc T) (tSl (rSlU K) (tVar 7) (tPart (tVar 9)) (tPart (tVar 10))) [some s0, some (.ref ar), x2, x3, x4, x5, some vf, some vs, some v8, some (.int (pb : Nat)), some (.int (pe : Nat)), y11, y12, y13, y14, y15, y16, y17, y18, y19, y20, y21] H2 (Wl ar T) (.list ((cutT t (pb, pe)).map .int)) := fun e => (e_sll (e_var rfl (ht.le (l01.trans e) lw_sub) lw_sub) (o_some (e_vi rfl)) (o_some (e_vi rfl)) (wl_nk e.ok)).is (by rw [cutD_ints t pb pe (Nat.le_of_lt h1) h2])
        have cl := cutT_len t (pb, pe)
        have hl := hav_len fs (cutT t (pb, pe))
        have t1 : EvT (Rl K ar as sc T) (tTest (tOp (rNeD K) (tCall (sp__law_having K) [] E0 (tCons (tVar 6) (tCons (tSl (rSlU K) (tVar 7) (tPart (tVar 9)) (tPart (tVar 10))) tNil))) (tLst tNil))) [some s0, some (.ref ar), x2, x3, x4, x5, some vf, some vs, some v8, some (.int (pb : Nat)), some (.int (pe : Nat)), y11, y12, y13, y14, y15, y16, y17, y18, y19, y20, y21] H' (!(havP fs (cutT t (pb, pe))).isEmpty) := (t_cmp (N := Wl ar T) (e_ne (d := natsD (havP fs (cutT t (pb, pe)))) (e := .list []) (ev_having (N2 := Wl ar T) (e_var rfl (hf.le l01 lw_sub) lw_sub) (sl (Le.refl l1.ok)) (by omega) (by omega) (wl_nk l1.ok)) (e_lst a_nil (wl_nk l1.ok) (by decide)) lw_sub (ok_shaped (ok_nats (by omega) 0) (by decide)) shaped_nil)).is (by unfold natsD; rw [nats_ints, eqv_empty, List.isEmpty_map])
        have kn : keptN fs t (i + 1) = if (!(havP fs (cutT t (pb, pe))).isEmpty) = true then keptN fs t i ++ cutT t (pb, pe) else keptN fs t i := by
          unfold keptN
          rw [take_snoc hpart, List.filter_append, List.flatten_append, List.filter_cons]
          split
          · simp
          · simp
        refine s_if (R := Rl K ar as sc T) t1 l1.ok (fun c H2 e2 => ?_) (fun c H2 e2 => ?_)
        · have := keptN_len fs t i
          rw [if_pos c] at kn
          refine s_asg (R := Rl K ar as sc T) (N := Wl ar T) (d := .list ((keptN fs t (i + 1)).map .int)) ((e_addl (ds := (keptN fs t i).map .int) (e_var rfl (r8.le e2 lw_sub) lw_sub) (sl e2) (by rw [List.length_map, List.length_map]; omega) (wl_nk e2.ok)).is (by rw [kn, List.map_append])) e2.ok fun w H3 e3 rw_ => ?_
          exact ⟨⟨_, _, w, rfl, rw_⟩, (l1.trans e2).trans e3⟩
        · rw [if_neg (by rw [c]; decide)] at kn
          refine ⟨⟨_, _, v8, rfl, ?_⟩, l1.trans e2⟩
          rw [kn]
          exact r8.le e2 lw_sub
  · obtain ⟨⟨y9, y10, v8, rfl, r8⟩, l1⟩ := p
    rw [lm, keptN_all] at r8
    exact q _ _ _ _ (e1.trans l1) r8
end
end FF
set_option Elab.async false
set_option linter.all false
set_option maxRecDepth 100000
set_option maxHeartbeats 4000000
/-! k12: the law, its asks -/
namespace FF
open PySem PySem.Spec PyProof.Rows L2 RT
open GxR (TabB TabG Tabbed)
theorem str_ok {s : Str} (h : ∀ c ∈ s.cps.toList, 97 ≤ c ∧ c ≤ 122) : PyData.strOk s = true := by
  unfold PyData.strOk
  rw [← Array.all_toList, List.all_eq_true]
  intro c hc
  exact decide_eq_true (by have := h c hc; omega)
theorem ok_facesD {fs : List Face} (h : FacesOk fs) : okD 3 (facesD fs) := by
  refine ⟨by rw [List.length_map]; have := h.ln; omega, fun x hx => ?_⟩
  obtain ⟨f, hf, rfl⟩ := List.mem_map.1 hx
  have ok := h.all f hf
  refine ⟨by show 3 ≤ 40000; decide, fun y hy => ?_⟩
  simp only [List.mem_cons, List.not_mem_nil, or_false] at hy
  rcases hy with rfl | rfl | rfl
  · exact str_ok ok.nm.2.2
  · exact ok_int _ _
  · exact ⟨by rw [List.length_map]; have := ok.ln; omega, fun z hz => by obtain ⟨w, _, rfl⟩ := List.mem_map.1 hz; exact ok_int _ _⟩
/-- what is told of one face more -/
structure MoreOk (ls ms : List Int) (g : Face) : Prop where
  rk : 0 ≤ g.rank ∧ g.rank ≤ 9
  up : g.signs.Pairwise (· < ·)
  rg : ∀ z ∈ g.signs, 0 ≤ z ∧ z < 1000
  ln : g.signs.length ≤ 100
  pl : ∀ z ∈ g.signs, z ∈ ls ∨ z ∈ ms
theorem pool_more {ls ms : List Int} (po : PoolOk ls ms) : MoreOk ls ms ⟨"zz", 3, ls ++ ms⟩ := by
  refine ⟨by show (0 : Int) ≤ 3 ∧ (3 : Int) ≤ 9; decide, List.pairwise_append.mpr ⟨po.lr, po.mr, fun a ha b hb => ?_⟩, fun z hz => ?_, ?_, fun z hz => List.mem_append.1 hz⟩
  · have := po.lb a ha
    have := po.mb b hb
    omega
  · rcases List.mem_append.1 hz with q | q
    · have := po.lb z q; omega
    · have := po.mb z q; omega
  · show (ls ++ ms).length ≤ 100
    rw [List.length_append]
    have := po.ll
    have := po.ml
    omega
theorem pool_signs {ls ms xs : List Int} (po : PoolOk ls ms) (nd : xs.Pairwise (· < ·)) (h : ∀ z ∈ xs, z ∈ ls ∨ z ∈ ms) : xs.length ≤ 100 := by
  have := erase_len xs (ls ++ ms) (nd.imp fun {a b} q => by omega) fun z hz => List.mem_append.2 (h z hz)
  rw [List.length_append] at this
  have := po.ll
  have := po.ml
  omega
section
variable {K : PySem.W.Frag} {C ar as : Addr} {sc : List Int} {T : List Addr} {H : Hp} {σ : L2.St} {D : Ends} {tz : TS} {N : Addr → Prop} {te : TE}
theorem evm_faces {i j : Nat} {ls ms : List Int} {vp : V} {most : Int} (h1 : σ[i]? = some (some (.ref ar))) (h3 : σ[j]? = some (some vp)) (po : PoolOk ls ms) (hp : Dt (Wl ar T) H (poolD ls ms) vp) (hm : 1 ≤ most ∧ most ≤ 8) (nk : Nk (Rl K ar as sc T) N H) : EvP (Rl K ar as sc T) (tCall (sp__law_facesM K) [] E0 (tCons (tVar i) (tCons (tVar j) (tCons (tC (.int most)) tNil)))) σ H N (fun d => ∃ gs : List Face, d = facesD gs ∧ FacesOk gs ∧ (gs.length : Int) ≤ most ∧ ∀ f ∈ gs, ∀ z ∈ f.signs, z ∈ ls ∨ z ∈ ms) := fun H1 e Q q =>
  ⟨_, h1, _, h3, ar, as, sc, vp, ls, ms, most, rfl, e.ok.1, po, (hp.le e lw_sub).weak (fun a z => .inl z), hm.1, hm.2, fun gs v H2 gok gl gp e2 r => q _ v H2 (e2.rr e.ok.2) ⟨gs, rfl, gok, gl, gp⟩ (r.weak (nk.le e).domle)⟩
abbrev r12_more (K : PySem.W.Frag) : TE := (tOp (rIx K) (tOp (rAddU K) (tCall (sp__law_facesM K) [] E0 (tCons (tVar 1) (tCons (tVar 3) (tCons (tC (.int 1)) tNil)))) (tLst (tCons (tTup (tCons (tC (.str "zz")) (tCons (tC (.int 3)) (tCons (tCB (rTupU K) (tCons (tOp (rAddU K) (tOp (rIx K) (tVar 3) (tC (.int 0))) (tOp (rIx K) (tVar 3) (tC (.int 1)))) tNil)) tNil)))) tNil))) (tC (.int 0)))
theorem ev_more12 {ls ms : List Int} {vp : V} (h1 : σ[1]? = some (some (.ref ar))) (h3 : σ[3]? = some (some vp)) (po : PoolOk ls ms) (hp : Dt (Wl ar T) H (poolD ls ms) vp) (ok : (Rl K ar as sc T).I H) : EvP (Rl K ar as sc T) (r12_more K) σ H (Wl ar T) (fun d => ∃ g : Face, d = faceD g ∧ MoreOk ls ms g) := by
  have l0 : ∀ {H2 : Hp}, Le (Rl K ar as sc T) H H2 → Ev (Rl K ar as sc T) (tOp (rIx K) (tVar 3) (tC (.int 0))) σ H2 (Wl ar T) (.list (ls.map .int)) := fun e => e_ixt (ds := [.list (ls.map .int), .list (ms.map .int)]) (e_var h3 (hp.le e lw_sub) lw_sub) e_int lw_sub rfl
  have l1 : ∀ {H2 : Hp}, Le (Rl K ar as sc T) H H2 → Ev (Rl K ar as sc T) (tOp (rIx K) (tVar 3) (tC (.int 1))) σ H2 (Wl ar T) (.list (ms.map .int)) := fun e => e_ixt (ds := [.list (ls.map .int), .list (ms.map .int)]) (e_var h3 (hp.le e lw_sub) lw_sub) e_int lw_sub rfl
  have zz : Ev (Rl K ar as sc T) (tLst (tCons (tTup (tCons (tC (.str "zz")) (tCons (tC (.int 3)) (tCons (tCB (rTupU K) (tCons (tOp (rAddU K) (tOp (rIx K) (tVar 3) (tC (.int 0))) (tOp (rIx K) (tVar 3) (tC (.int 1)))) tNil)) tNil)))) tNil)) σ H (Wl ar T) (.list [faceD ⟨"zz", 3, ls ++ ms⟩]) := by
    have := po.ll
    have := po.ml
    have r : Le (Rl K ar as sc T) H H := Le.refl ok
    refine e_lst (a_one (e_tup (ds := [.str "zz", .int 3, .tuple ((ls ++ ms).map .int)]) (a_cons e_str (a_cons e_int (a_one ((e_tuple (e_addl (l0 r) (l1 r) (by rw [List.length_map, List.length_map]; omega) (wl_nk ok)) lw_sub).is (by rw [List.map_append]))) lw_sub) lw_sub) lw_sub (by show 3 ≤ 100000; decide))) (wl_nk ok) (by show 1 ≤ 100000; decide)
  refine p_op2 (R := Rl K ar as sc T) (φ := fun d => ∃ gs : List Face, d = .list (gs.map faceD) ∧ gs ≠ [] ∧ ∀ g ∈ gs, MoreOk ls ms g) (ψ := fun d => d = .int 0) ?_ (Ev.p e_int) lw_sub fun x y u v H1 hx hy e1 rx ry => ?_
  · refine p_op2 (R := Rl K ar as sc T) (evm_faces h1 h3 po hp (by decide) (wl_nk ok)) zz.p lw_sub fun x y u v H1 hx hy e1 rx ry => ?_
    obtain ⟨gs, rfl, gok, gl, gp⟩ := hx
    subst hy
    refine (Ev.p (e_addl (ds := gs.map faceD) (e_var rfl rx lw_sub) (e_var rfl ry lw_sub) ?_ (wl_nk e1.ok))).imp fun d hd => ?_
    · rw [List.length_map]
      show gs.length + 1 ≤ 100000
      omega
    · subst hd
      refine ⟨gs ++ [⟨"zz", 3, ls ++ ms⟩], by rw [List.map_append]; rfl, by simp, fun g hg => ?_⟩
      rcases List.mem_append.1 hg with hg | hg
      · have o := gok.all g hg
        exact ⟨o.rk, o.up, o.rg, o.ln, gp g hg⟩
      · rw [List.mem_singleton.1 hg]
        exact pool_more po
  · obtain ⟨gs, rfl, ne, hg⟩ := hx
    subst hy
    cases ry
    cases gs with
    | nil => exact absurd rfl ne
    | cons g gs => exact (Ev.p (e_ixl (i := ((0 : Nat) : Int)) (e_var rfl rx lw_sub) (e_vi rfl) lw_sub (atI_nat (v := faceD g) rfl))).imp fun d hd => ⟨g, hd, hg g (List.mem_cons_self ..)⟩
abbrev r12_extra (K : PySem.W.Frag) : TE := (tOp (rAddU K) (tTup (tCons (tOp (rIx K) (tVar 4) (tC (.int 6))) tNil)) (tSl (rSlU K) (tVar 13) (tPart (tC (.int 1))) tNoPart))
theorem ev_extra12 {ns : List Str} {g : Face} {vn vg : V} (h4 : σ[4]? = some (some vn)) (h13 : σ[13]? = some (some vg)) (hn : Dt (Wl ar T) H (.list (ns.map .str)) vn) (hg : Dt (Wl ar T) H (faceD g) vg) (hl : 6 < ns.length) : Ev (Rl K ar as sc T) (r12_extra K) σ H (Wl ar T) (faceD ⟨ns.getD 6 "", g.rank, g.signs⟩) :=
  e_addt (ds := [.str (ns.getD 6 "")]) (es := [.int g.rank, .tuple (g.signs.map .int)]) (e_tup (a_one (e_ixl (i := ((6 : Nat) : Int)) (e_var h4 hn lw_sub) e_int lw_sub (atI_nat (by rw [List.getElem?_map, List.getD_eq_getElem?_getD, List.getElem?_eq_getElem (by omega)]; rfl)))) lw_sub (by show 1 ≤ 100000; decide)) (e_sltU (ds := [.str g.name, .int g.rank, .tuple (g.signs.map .int)]) (e_var h13 hg lw_sub) (o_some e_int) o_none lw_sub (by show ¬ (HT.sIx 3 0 (some 1) = 0 ∧ HT.sIx 3 3 none = 3); decide)) lw_sub (by simp) (by simp) (by show 1 + 2 ≤ 100000; decide)
/-- faces[:p] + [x] + faces[q:] -/
theorem ev_wider {i : Nat} {fs : List Face} {x : Face} {vf : V} {tp tx tq : TE} {p q : Nat} (hσ : σ[i]? = some (some vf)) (hf : Dt (Wl ar T) H (facesD fs) vf) (hp : ∀ {N}, Ev (Rl K ar as sc T) tp σ H N (.int (p : Int))) (hx : Ev (Rl K ar as sc T) tx σ H (Wl ar T) (faceD x)) (hq : ∀ {N}, Ev (Rl K ar as sc T) tq σ H N (.int (q : Int))) (fl : fs.length ≤ 8) (pl : p ≤ fs.length) (ql : q ≤ fs.length) (ok : (Rl K ar as sc T).I H) :
    Ev (Rl K ar as sc T) (tOp (rAddU K) (tOp (rAddU K) (tSl (rSlU K) (tVar i) tNoPart (tPart tp)) (tLst (tCons tx tNil))) (tSl (rSlU K) (tVar i) (tPart tq) tNoPart)) σ H (Wl ar T) (facesD (fs.take p ++ [x] ++ fs.drop q)) := by
  have lf : (fs.map faceD).length = fs.length := List.length_map ..
  refine (e_addl (ds := (fs.map faceD).take p ++ [faceD x]) (es := (fs.map faceD).drop q) (e_addl (ds := (fs.map faceD).take p) ((e_sll (e_var hσ hf lw_sub) o_none (o_some hp) (wl_nk ok)).is (by rw [cutD_take _ (by omega)])) (e_lst (a_one hx) (wl_nk ok) (by show 1 ≤ 100000; decide)) ?_ (wl_nk ok)) ((e_sll (e_var hσ hf lw_sub) (o_some hq) o_none (wl_nk ok)).is (by rw [cutD_drop _ (by omega)])) ?_ (wl_nk ok)).is ?_
  · rw [List.length_take]
    show _ + 1 ≤ 100000
    omega
  · rw [List.length_append, List.length_take, List.length_drop]
    show _ + 1 + _ ≤ 100000
    omega
  · unfold facesD
    rw [List.map_append, List.map_append, List.map_take, List.map_drop]
    rfl
/-- changes(shown(Case(w), text)) > number -/
theorem t_more12 {i j k : Nat} {fs : List Face} {t : List Int} {vw vt : V} {n : Nat} (h1 : σ[i]? = some (some vw)) (h2 : σ[j]? = some (some vt)) (h3 : σ[k]? = some (some (.int (n : Int)))) (hw : Dt (Wl ar T) H (facesD fs) vw) (hf : FacesOk fs) (ht : Dt (Wl ar T) H (.list (t.map .int)) vt) (tl : t.length ≤ 200) (hb : badAt t = none) (hn : chg (shownP fs t) ≤ n) (ok : (Rl K ar as sc T).I H) :
    EvT (Rl K ar as sc T) (tTest (tOp (rI0 fun i j => .bl (decide (j < i))) (tCall sp_changes [] E0 (tCons (tCall (sp_shown C T) [] E0 (tCons (tMake C (sp_init C T) [] E0 (tCons (tVar i) tNil)) (tCons (tVar j) tNil))) tNil)) (tVar k))) σ H false := by
  have cl := chosen_len (fs := fs) (t := t)
  have sl := shown_clen fs t
  exact t_cmp (N := No) ((e_IB (g := fun i j => decide (j < i)) (ev_changes (N' := Wl ar T) (ev_shownMk (e_var h1 hw lw_sub) hf (e_var h2 ht lw_sub) (by omega) hb (wl_nk ok)) (by omega)) (e_vi h3)).is (by rw [decide_eq_false (by omega)]))
end
end FF
set_option Elab.async false
set_option linter.all false
set_option maxRecDepth 100000
set_option maxHeartbeats 4000000
/-! k12: the law -/
namespace FF
open PySem PySem.Spec PyProof.Rows L2 RT
open GxR (TabB TabG Tabbed)
section
variable {K : PySem.W.Frag} {C ar as : Addr} {sc : List Int} {T : List Addr} {H : Hp} {σ : L2.St} {D : Ends} {tz : TS} {N : Addr → Prop} {te : TE}
abbrev r12_fill (K : PySem.W.Frag) (C : Addr) (T : List Addr) : TS := (tSeq (tAsg (tCall (sp__law_taken K) [] E0 (tCons (tVar 1) (tCons (tCB (rLenU K) (tCons (tVar 6) tNil)) tNil))) (gName 17))
    (tSeq (tAsg (tCB (rTupU K) (tCons (tSortedTup K (tOp (rCatA K) (tOp (rIx K) (tOp (rIx K) (tVar 6) (tVar 17)) (tC (.int 2))) (tOp (rIx K) (tVar 13) (tC (.int 2))))) tNil)) (gName 18))
    (tSeq (tAsg (tOp (rAddU K) (tOp (rAddU K) (tSl (rSlU K) (tVar 6) tNoPart (tPart (tVar 17))) (tLst (tCons (tOp (rAddU K) (tSl (rSlU K) (tOp (rIx K) (tVar 6) (tVar 17)) tNoPart (tPart (tC (.int 2)))) (tTup (tCons (tVar 18) tNil))) tNil))) (tSl (rSlU K) (tVar 6) (tPart (tOp (rAddU K) (tVar 17) (tC (.int 1)))) tNoPart)) (gName 16))
    (tIfS (tTest (tOp (rI0 fun i j => .bl (decide (j < i))) (tCall sp_changes [] E0 (tCons (tCall (sp_shown C T) [] E0 (tCons (tMake C (sp_init C T) [] E0 (tCons (tVar 16) tNil)) (tCons (tVar 8) tNil))) tNil)) (tVar 12))) (tRet (tC (.bl false))) tNext))))
/-- signs more in one face -/
theorem fill12 {x2 x3 x4 x5 x7 y9 y10 x11 y14 y15 y16 y17 y18 y19 y20 y21 : Option V} {s0 vf vt vg : V} {fs : List Face} {t ls ms : List Int} {g : Face} {n : Nat} (ok : (Rl K ar as sc T).I H) (hf : Dt (Wl ar T) H (facesD fs) vf) (ht : Dt (Wl ar T) H (.list (t.map .int)) vt) (hg : Dt (Wl ar T) H (faceD g) vg) (fok : FacesOk fs) (fne : fs ≠ []) (po : PoolOk ls ms) (fp : ∀ f ∈ fs, ∀ z ∈ f.signs, z ∈ ls ∨ z ∈ ms) (gok : MoreOk ls ms g) (tl : t.length ≤ 200) (hb : badAt t = none) (hne : ∀ c ∈ chosen fs t, c ≠ []) (hn : n = chg (shownP fs t))
    (q : ∀ y16 y17 y18 H2, Le (Rl K ar as sc T) H H2 → D.nx [some s0, some (.ref ar), x2, x3, x4, x5, some vf, x7, some vt, y9, y10, x11, some (.int (n : Int)), some vg, y14, y15, y16, y17, y18, y19, y20, y21] H2) :
    r12_fill K C T D [some s0, some (.ref ar), x2, x3, x4, x5, some vf, x7, some vt, y9, y10, x11, some (.int (n : Int)), some vg, y14, y15, y16, y17, y18, y19, y20, y21] H := by
  have fl := fok.ln
  have lf : (fs.map faceD).length = fs.length := List.length_map ..
  have fpos : 0 < fs.length := List.length_pos_iff.2 fne
  refine q_asgZ (R := Rl K ar as sc T) (z_drL (N := Wl ar T) (i := 1) (many := (fs.length : Nat)) rfl ((e_lenl (N := Wl ar T) (ds := fs.map faceD) (e_var rfl hf lw_sub)).is (by rw [lf])) (by omega) (by omega)) ok fun z H1 e1 hz => ?_
  obtain ⟨k, rfl⟩ : ∃ k : Nat, z = k := ⟨z.toNat, by omega⟩
  have hk : k < fs.length := by omega
  have hgk : fs[k]? = some (fs.getD k default) := by rw [List.getD_eq_getElem?_getD, List.getElem?_eq_getElem hk]; rfl
  have fk := fok.all _ (getD_mem (d := default) hk)
  have fpk := fp _ (getD_mem (d := default) hk)
  have hf1 := hf.le e1 lw_sub
  have hg1 := hg.le e1 lw_sub
  have k1 := fk.ln
  have k2 := gok.ln
  refine q_asgP (R := Rl K ar as sc T) (N := Wl ar T) (φp := fun d => ∃ xs : List Int, d = .tuple (xs.map .int) ∧ xs.Pairwise (· < ·) ∧ ∀ z, z ∈ xs ↔ z ∈ (fs.getD k default).signs ++ g.signs) (p_tuple ((p_ssetT (ns := (fs.getD k default).signs ++ g.signs) ((e_catA (ds := (fs.getD k default).signs.map .int) (es := g.signs.map .int) (e_ixt (i := 2) (e_face_at (e_var rfl hf1 lw_sub) (e_vi rfl) lw_sub hk) e_int lw_sub rfl) (e_ixt (ds := [.str g.name, .int g.rank, .tuple (g.signs.map .int)]) (i := 2) (e_var rfl hg1 lw_sub) e_int lw_sub rfl) lw_sub (by rw [List.length_map, List.length_map]; omega)).is (by rw [List.map_append])) (by rw [List.length_append]; omega) (wl_nk e1.ok)).imp fun d hd => ?_) lw_sub) e1.ok fun d v H2 e2 hd rx => ?_
  · obtain ⟨xs, rfl, p1, p2⟩ := hd
    exact ⟨_, rfl, xs, rfl, p1, p2⟩
  obtain ⟨xs, rfl, pw, mem⟩ := hd
  have e12 := e1.trans e2
  have hf2 := hf.le e12 lw_sub
  have xp : ∀ z ∈ xs, z ∈ ls ∨ z ∈ ms := fun z hz => (List.mem_append.1 ((mem z).1 hz)).elim (fpk z) (gok.pl z)
  have xl := pool_signs po pw xp
  have gface : FaceOk ⟨(fs.getD k default).name, (fs.getD k default).rank, xs⟩ := ⟨fk.nm, fk.rk, pw, fun z hz => (List.mem_append.1 ((mem z).1 hz)).elim (fk.rg z) (gok.rg z), xl⟩
  refine q_asg (R := Rl K ar as sc T) (N := Wl ar T) (d := facesD (fs.take k ++ [⟨(fs.getD k default).name, (fs.getD k default).rank, xs⟩] ++ fs.drop (k + 1))) (ev_wider (i := 6) (p := k) (q := k + 1) rfl hf2 (e_vi rfl) ?_ (fun {N} => (e_add (N := N) (i := (k : Nat)) (j := 1) (e_vi rfl) e_int).is (by push_cast; rfl)) fl (by omega) (by omega) e2.ok) e2.ok fun w H3 e3 rw_ => ?_
  · exact e_addt (ds := [.str (fs.getD k default).name, .int (fs.getD k default).rank]) (es := [.tuple (xs.map .int)]) (e_sltU (ds := [.str (fs.getD k default).name, .int (fs.getD k default).rank, .tuple ((fs.getD k default).signs.map .int)]) (e_face_at (e_var rfl hf2 lw_sub) (e_vi rfl) lw_sub hk) o_none (o_some e_int) lw_sub (by show ¬ (HT.sIx 3 0 none = 0 ∧ HT.sIx 3 3 (some 2) = 3); decide)) (e_tup (a_one (e_var rfl rx lw_sub)) lw_sub (by show 1 ≤ 100000; decide)) lw_sub (by simp) (by simp) (by show 2 + 1 ≤ 100000; decide)
  have e13 := e12.trans e3
  have t1 := t_more12 (C := C) (σ := [some s0, some (.ref ar), x2, x3, x4, x5, some vf, x7, some vt, y9, y10, x11, some (.int (n : Int)), some vg, y14, y15, some w, some (.int (k : Int)), some v, y19, y20, y21]) (i := 16) (j := 8) (k := 12) rfl rfl rfl rw_ (faces_fill fok hgk gface rfl) (ht.le e13 lw_sub) tl hb (by
    rw [hn]
    exact shown_fill (fun f hf z hz => by rw [hgk] at hf; cases hf; exact (mem z).2 (List.mem_append_left _ hz)) hne) e3.ok
  exact s_if (R := Rl K ar as sc T) t1 e3.ok (fun c => nomatch c) fun _ H4 e4 => q _ _ _ H4 (e13.trans e4)
abbrev r12_cut (K : PySem.W.Frag) (C : Addr) (T : List Addr) : TS :=
    (tSeq (tAsg (tOp (rAddU K) (tLc (iRng1 (tCons (tCB (rLenU K) (tCons (tVar 8) tNil)) tNil)) (gName 20) (tTest (tOp (rI0 fun i j => .bl (decide (i < j))) (tOp (rIx K) (tVar 8) (tVar 20)) (tC (.int 800)))) (tVar 20) [20]) (tLst (tCons (tCB (rLenU K) (tCons (tVar 8) tNil)) tNil))) (gName 19))
    (tSeq (tAsg (tOp (rIx K) (tVar 19) (tCall (sp__law_taken K) [] E0 (tCons (tVar 1) (tCons (tCB (rLenU K) (tCons (tVar 19) tNil)) tNil)))) (gName 20))
    (tSeq (tAsg (tLst (tCons (tCall sp_changes [] E0 (tCons (tCall (sp_shown C T) [] E0 (tCons (tVar 11) (tCons (tSl (rSlU K) (tVar 8) tNoPart (tPart (tVar 20))) tNil))) tNil)) (tCons (tCall sp_changes [] E0 (tCons (tCall (sp_shown C T) [] E0 (tCons (tVar 11) (tCons (tSl (rSlU K) (tVar 8) (tPart (tVar 20)) tNoPart) tNil))) tNil)) tNil))) (gName 21))
    (tIfS (tNot (tTest (tChain (rI0 fun i j => .bl (decide (i ≤ j))) (rI0 fun i j => .bl (decide (i ≤ j))) (tCB (rMax K) (tCons (tVar 21) tNil)) (tVar 12) (tOp (rAddU K) (tCB (rSum K) (tCons (tVar 21) tNil)) (tC (.int 1)))))) (tRet (tC (.bl false))) tNext))))
def cutsP (t : List Int) : List Nat := (List.range t.length).filter (fun i => decide (t.getD i 0 < 800)) ++ [t.length]
theorem cuts_ok {t : List Int} {j : Nat} (h : j ∈ cutsP t) : j ≤ t.length ∧ ∀ a, (t.drop j).head? = some a → a < 800 := by
  unfold cutsP at h
  rcases List.mem_append.1 h with h | h
  · obtain ⟨h1, h2⟩ := List.mem_filter.1 h
    have hj := List.mem_range.1 h1
    refine ⟨by omega, fun a ha => ?_⟩
    have := of_decide_eq_true h2
    rw [List.head?_drop] at ha
    rw [List.getD_eq_getElem?_getD, ha] at this
    exact this
  · rw [List.mem_singleton.1 h]
    refine ⟨Nat.le_refl _, fun a ha => ?_⟩
    rw [List.drop_length] at ha
    cases ha
/-- the text cut at a letter -/
theorem cut12 {x2 x3 x4 x5 x6 x7 y9 y10 y13 y14 y15 y16 y17 y18 y19 y20 y21 : Option V} {s0 vt : V} {cx : Addr} {fs : List Face} {t : List Int} {n : Nat} (ok : (Rl K ar as sc T).I H) (hc : CaseAt (Wl ar T) C H cx fs) (ht : Dt (Wl ar T) H (.list (t.map .int)) vt) (fl : fs.length ≤ 8) (tl : t.length ≤ 200) (hb : ∀ z ∈ t, 0 ≤ z ∧ z < 1000) (hn : n = chg (shownP fs t))
    (q : ∀ y19 y20 y21 H2, Le (Rl K ar as sc T) H H2 → D.nx [some s0, some (.ref ar), x2, x3, x4, x5, x6, x7, some vt, y9, y10, some (.ref cx), some (.int (n : Int)), y13, y14, y15, y16, y17, y18, y19, y20, y21] H2) :
    r12_cut K C T D [some s0, some (.ref ar), x2, x3, x4, x5, x6, x7, some vt, y9, y10, some (.ref cx), some (.int (n : Int)), y13, y14, y15, y16, y17, y18, y19, y20, y21] H := by
  have lt : (t.map PyData.int).length = t.length := List.length_map ..
  have len8 : ∀ {H2 : Hp} {σ : L2.St} {N : Addr → Prop}, σ[8]? = some (some vt) → Le (Rl K ar as sc T) H H2 → Ev (Rl K ar as sc T) (tCB (rLenU K) (tCons (tVar 8) tNil)) σ H2 N (.int (t.length : Nat)) := fun h e => (e_lenl (N := Wl ar T) (ds := t.map .int) (e_var h (ht.le e lw_sub) lw_sub)).is (by rw [lt])
  have cl : (cutsP t).length ≤ 201 := by
    unfold cutsP
    have := List.length_filter_le (fun i => decide (t.getD i 0 < 800)) (List.range t.length)
    rw [List.length_range] at this
    rw [List.length_append]
    show _ + 1 ≤ 201
    omega
  have ci : (cutsP t).map (fun j : Nat => PyData.int (j : Int)) = ((cutsP t).map fun j : Nat => (j : Int)).map .int := by rw [List.map_map]; rfl
  refine q_asg (R := Rl K ar as sc T) (N := Wl ar T) (d := .list (((cutsP t).map fun j : Nat => (j : Int)).map .int)) ?_ ok fun v19 H1 e1 r19 => ?_
  · refine (e_addl (ds := ((List.range t.length).filter (fun i => decide (t.getD i 0 < 800))).map fun i : Nat => PyData.int (i : Int)) (es := [.int (t.length : Nat)]) (EvP.ev ((p_lcR (n := (t.length : Nat)) (fun i o => o = if decide (t.getD i 0 < 800) = true then some (.int (i : Int)) else none) (e_len1 (N := Wl ar T) (len8 rfl (Le.refl ok))) (by omega) (wl_nk ok) (fun x => rfl) fun i Dd H1 hD e1 nk1 hi => ?_).imp fun d o => ?_)) (e_lst (a_one (len8 rfl (Le.refl ok))) (wl_nk ok) (by show 1 ≤ 100000; decide)) ?_ (wl_nk ok)).is ?_
    · have hi' : i < t.length := by omega
      have sub1 : ∀ a, (Rl K ar as sc T).W a → (a = Dd ∨ Wl ar T a) := nk1.sub
      exact f_det (t_cmp (N := No) (e_IB (g := fun i j => decide (i < j)) (Ev.anyI (e_ixl (N := fun a => a = Dd ∨ Wl ar T a) (d := .int (t.getD i 0)) (e_var (i := 8) rfl ((ht.more hD).le e1 sub1) sub1) (e_vi rfl) sub1 (atI_nat (by rw [List.getElem?_map, List.getD_eq_getElem?_getD, List.getElem?_eq_getElem hi']; rfl)))) e_int)) fun _ => e_vi rfl
    · have := out_det (f := fun i => decide (t.getD i 0 < 800)) (g := fun i : Nat => PyData.int (i : Int)) o
      rw [Int.toNat_natCast] at this
      exact this
    · have := List.length_filter_le (fun i => decide (t.getD i 0 < 800)) (List.range t.length)
      rw [List.length_range] at this
      rw [List.length_map]
      show _ + 1 ≤ 100000
      omega
    · rw [← ci]
      unfold cutsP
      rw [List.map_append]
      rfl
  have lc : (((cutsP t).map fun j : Nat => (j : Int)).map PyData.int).length = (cutsP t).length := by rw [List.length_map, List.length_map]
  have lc2 : ((cutsP t).map fun j : Nat => (j : Int)).length = (cutsP t).length := List.length_map ..
  have cpos : 0 < (cutsP t).length := by unfold cutsP; rw [List.length_append]; exact Nat.succ_pos _
  refine q_asgZ (R := Rl K ar as sc T) (φ := fun z => ∃ j : Nat, z = j ∧ j ≤ t.length ∧ ∀ a, (t.drop j).head? = some a → a < 800) (z_ixl (N := Wl ar T) (ns := (cutsP t).map fun j : Nat => (j : Int)) (e_var rfl r19 lw_sub) ((z_drL (N := Wl ar T) (i := 1) (many := ((cutsP t).length : Nat)) rfl ((e_lenl (N := Wl ar T) (ds := ((cutsP t).map fun j : Nat => (j : Int)).map .int) (e_var rfl r19 lw_sub)).is (by rw [lc])) (by omega) (by omega)).imp fun z hz => by rw [lc2]; exact hz) lw_sub fun z hz => ?_) e1.ok fun z H2 e2 hz => ?_
  · obtain ⟨j, hj, rfl⟩ := List.mem_map.1 hz
    exact ⟨j, rfl, cuts_ok hj⟩
  obtain ⟨j, rfl, jl, hj⟩ := hz
  have e12 := e1.trans e2
  have ht2 := ht.le e12 lw_sub
  have hc2 := hc.le e12 lw_sub
  have ta : ∀ {H3 : Hp}, Le (Rl K ar as sc T) H2 H3 → Ev (Rl K ar as sc T) (tSl (rSlU K) (tVar 8) tNoPart (tPart (tVar 20))) [some s0, some (.ref ar), x2, x3, x4, x5, x6, x7, some vt, y9, y10, some (.ref cx), some (.int (n : Int)), y13, y14, y15, y16, y17, y18, some v19, some (.int (j : Int)), y21] H3 (Wl ar T) (.list ((t.take j).map .int)) := fun e => (e_sll (e_var rfl (ht2.le e lw_sub) lw_sub) o_none (o_some (e_vi rfl)) (wl_nk e.ok)).is (by rw [cutD_take _ (by omega), List.map_take])
  have tb : ∀ {H3 : Hp}, Le (Rl K ar as sc T) H2 H3 → Ev (Rl K ar as sc T) (tSl (rSlU K) (tVar 8) (tPart (tVar 20)) tNoPart) [some s0, some (.ref ar), x2, x3, x4, x5, x6, x7, some vt, y9, y10, some (.ref cx), some (.int (n : Int)), y13, y14, y15, y16, y17, y18, some v19, some (.int (j : Int)), y21] H3 (Wl ar T) (.list ((t.drop j).map .int)) := fun e => (e_sll (e_var rfl (ht2.le e lw_sub) lw_sub) (o_some (e_vi rfl)) o_none (wl_nk e.ok)).is (by rw [cutD_drop _ (by omega), List.map_drop])
  have l1 : (t.take j).length ≤ t.length := by rw [List.length_take]; omega
  have l2 : (t.drop j).length ≤ t.length := by rw [List.length_drop]; omega
  have b1 : badAt (t.take j) = none := sign_none fun z hz => hb z (List.mem_of_mem_take hz)
  have b2 : badAt (t.drop j) = none := sign_none fun z hz => hb z (List.mem_of_mem_drop hz)
  have s1 := shown_clen fs (t.take j)
  have s2 := shown_clen fs (t.drop j)
  have c1 := chosen_len (fs := fs) (t := t.take j)
  have c2 := chosen_len (fs := fs) (t := t.drop j)
  have rf : Le (Rl K ar as sc T) H2 H2 := Le.refl e2.ok
  refine q_asg (R := Rl K ar as sc T) (N := Wl ar T) (d := .list ([((chg (shownP fs (t.take j)) : Nat) : Int), ((chg (shownP fs (t.drop j)) : Nat) : Int)].map .int)) (e_lst (a_cons (ev_changes (N' := Wl ar T) (ev_shown rfl hc2 (ta rf) fl (by omega) b1 (wl_nk e2.ok)) (by omega)) (a_one (ev_changes (N' := Wl ar T) (ev_shown rfl hc2 (tb rf) fl (by omega) b2 (wl_nk e2.ok)) (by omega))) lw_sub) (wl_nk e2.ok) (by show 2 ≤ 100000; decide)) e2.ok fun v21 H3 e3 r21 => ?_
  have hcut := shown_cut (fs := fs) (t := t) (u := t.take j) (v := t.drop j) (by rw [← chosen_app hj, List.take_append_drop])
  have t4 : EvT (Rl K ar as sc T) (tNot (tTest (tChain (rI0 fun i j => .bl (decide (i ≤ j))) (rI0 fun i j => .bl (decide (i ≤ j))) (tCB (rMax K) (tCons (tVar 21) tNil)) (tVar 12) (tOp (rAddU K) (tCB (rSum K) (tCons (tVar 21) tNil)) (tC (.int 1)))))) [some s0, some (.ref ar), x2, x3, x4, x5, x6, x7, some vt, y9, y10, some (.ref cx), some (.int (n : Int)), y13, y14, y15, y16, y17, y18, some v19, some (.int (j : Int)), some v21] H3 false := by
    refine (t_not (t_cmp (N := No) (e_chainLe (N := No) (a := max ((chg (shownP fs (t.take j)) : Nat) : Int) ((chg (shownP fs (t.drop j)) : Nat) : Int)) (b := (n : Int)) (e_max (N := Wl ar T) (e_var rfl r21 lw_sub) ?_ ?_) (e_vi rfl) (e_add (e_sum (N := Wl ar T) (e_var rfl r21 lw_sub)) e_int)))).is ?_
    · simp only [List.mem_cons, List.not_mem_nil, or_false]
      omega
    · intro y hy
      simp only [List.mem_cons, List.not_mem_nil, or_false] at hy
      omega
    · rw [decide_eq_true (by omega), decide_eq_true (by show (n : Int) ≤ (((chg (shownP fs (t.take j)) : Nat) : Int) + (((chg (shownP fs (t.drop j)) : Nat) : Int) + 0)) + 1; omega)]
      rfl
  exact s_if (R := Rl K ar as sc T) t4 e3.ok (fun c => nomatch c) fun _ H4 e4 => q _ _ _ H4 ((e12.trans e3).trans e4)
end
end FF
set_option Elab.async false
set_option linter.all false
set_option maxRecDepth 100000
set_option maxHeartbeats 4000000
/-! k12: the law, whole -/
namespace FF
open PySem PySem.Spec PyProof.Rows L2 RT
open GxR (TabB TabG Tabbed)
section
variable {K : PySem.W.Frag} {C ar as : Addr} {sc : List Int} {T : List Addr} {H : Hp} {σ : L2.St} {D : Ends} {tz : TS} {N : Addr → Prop} {te : TE}
abbrev r12_ask1 (K : PySem.W.Frag) (C : Addr) (T : List Addr) : TT := (tOr (tTest (tOp (rNeD K) (tCall (sp_missing C T) [] E0 (tCons (tVar 11) (tCons (tVar 8) tNil))) (tLst tNil))) (tTest (tOp (rInU K false) (tC .non) (tCall (sp_shown C T) [] E0 (tCons (tVar 11) (tCons (tVar 8) tNil))))))
abbrev r12_asks (K : PySem.W.Frag) (C : Addr) (T : List Addr) : TS :=
    (tSeq (tAsg (tCall sp_changes [] E0 (tCons (tCall (sp_shown C T) [] E0 (tCons (tVar 11) (tCons (tVar 8) tNil))) tNil)) (gName 12))
    (tSeq (tIfS (r12_ask1 K C T) (tRet (tC (.bl false))) tNext)
    (tSeq (tAsg (r12_more K) (gName 13))
    (tSeq (tAsg (tCall (sp__law_taken K) [] E0 (tCons (tVar 1) (tCons (tOp (rAddU K) (tCB (rLenU K) (tCons (tVar 6) tNil)) (tC (.int 1))) tNil))) (gName 14))
    (tSeq (tAsg (r12_extra K) (gName 15))
    (tSeq (tAsg (tOp (rAddU K) (tOp (rAddU K) (tSl (rSlU K) (tVar 6) tNoPart (tPart (tVar 14))) (tLst (tCons (tVar 15) tNil))) (tSl (rSlU K) (tVar 6) (tPart (tVar 14)) tNoPart)) (gName 16))
    (tSeq (tIfS (tTest (tOp (rI0 fun i j => .bl (decide (j < i))) (tCall sp_changes [] E0 (tCons (tCall (sp_shown C T) [] E0 (tCons (tMake C (sp_init C T) [] E0 (tCons (tVar 16) tNil)) (tCons (tVar 8) tNil))) tNil)) (tVar 12))) (tRet (tC (.bl false))) tNext)
    (tSeq (tIfS (tTest (tOp (rNeD K) (tVar 6) (tLst tNil))) (r12_fill K C T) tNext)
    (r12_cut K C T)))))))))
abbrev r12_turn (K : PySem.W.Frag) (C : Addr) (T : List Addr) : TS :=
    (tSeq (tAsg (tCall (sp__law_pool K) [] E0 (tCons (tVar 1) tNil)) (gName 3))
    (tSeq (tAsg (tCall (sp__law_names K) [] E0 (tCons (tVar 1) (tCons (tC (.int 7)) tNil))) (gName 4))
    (tSeq (tAsg (tCall (sp__law_facesM K) [] E0 (tCons (tVar 1) (tCons (tVar 3) (tCons (tC (.int 6)) tNil)))) (gName 5))
    (tSeq (tAsg (r12_faces K) (gName 6))
    (tSeq (tAsg (tCall (sp__law_signs K) [] E0 (tCons (tVar 1) (tCons (tVar 3) (tCons (tC (.int 40)) tNil)))) (gName 7))
    (tSeq (tAsg (tLst tNil) (gName 8))
    (tSeq (r12_text K)
    (tSeq (tAsg (tMake C (sp_init C T) [] E0 (tCons (tCB (rListU K) (tCons (tVar 6) tNil)) tNil)) (gName 11))
    (r12_asks K C T)))))))))
abbrev r12_law (K : PySem.W.Frag) (C : Addr) (T : List Addr) : TS :=
    (tSeq (tAsg (tLst (tCons (tVar 0) (tCons (tC (.int 0)) (tCons (tC (.int 0)) (tCons (tC (.int 0)) tNil))))) (gName 1))
    (tSeq (tFor (iRng1 (tCons (tC (.int 3)) tNil)) (gName 2) (r12_turn K C T))
    (tRet (tC (.bl true)))))
theorem ev_pool {i : Nat} (h1 : σ[i]? = some (some (.ref ar))) (nk : Nk (Rl K ar as sc T) N H) : EvP (Rl K ar as sc T) (tCall (sp__law_pool K) [] E0 (tCons (tVar i) tNil)) σ H N (fun d => ∃ ls ms : List Int, d = poolD ls ms ∧ PoolOk ls ms) := fun H1 e Q q =>
  ⟨_, h1, ar, as, sc, rfl, e.ok.1, fun ls ms vp H2 pok e2 r2 => q _ vp H2 (e2.rr e.ok.2) ⟨ls, ms, rfl, pok⟩ (r2.weak (nk.le e).domle)⟩
theorem ev_signs {i j : Nat} {ls ms : List Int} {vp : V} {many : Int} (h1 : σ[i]? = some (some (.ref ar))) (h3 : σ[j]? = some (some vp)) (po : PoolOk ls ms) (hp : Dt (Wl ar T) H (poolD ls ms) vp) (hm : 0 ≤ many ∧ many ≤ 100) (nk : Nk (Rl K ar as sc T) N H) : EvP (Rl K ar as sc T) (tCall (sp__law_signs K) [] E0 (tCons (tVar i) (tCons (tVar j) (tCons (tC (.int many)) tNil)))) σ H N (fun d => ∃ t : List Int, d = .list (t.map .int) ∧ SignsOk t) := fun H1 e Q q =>
  ⟨_, h1, _, h3, ar, as, sc, vp, ls, ms, many, rfl, e.ok.1, po, (hp.le e lw_sub).weak (fun a z => .inl z), hm.1, hm.2, fun t v H2 tok e2 r => q _ v H2 (e2.rr e.ok.2) ⟨t, rfl, tok⟩ (r.weak (nk.le e).domle)⟩
theorem name_new {ns : List Str} (h : NamesOk ns) {n k : Nat} (hn : n ≤ k) (hk : k < ns.length) : ns.getD k "" ∉ ns.take n := by
  intro hm
  obtain ⟨i, hi, e⟩ := List.getElem_of_mem hm
  rw [List.length_take] at hi
  rw [List.getElem_take] at e
  rw [List.getD_eq_getElem?_getD, List.getElem?_eq_getElem hk] at e
  exact List.pairwise_iff_getElem.1 h.1 i k (by omega) hk (by omega) e
theorem asks12 {x2 x5 y9 y10 y12 y13 y14 y15 y16 y17 y18 y19 y20 y21 : Option V} {s0 vp vn vf vs vt : V} {cx : Addr} {ls ms t : List Int} {ns : List Str} {fs : List Face} (ok : (Rl K ar as sc T).I H) (hc : CaseAt (Wl ar T) C H cx fs) (hp : Dt (Wl ar T) H (poolD ls ms) vp) (hn : Dt (Wl ar T) H (.list (ns.map .str)) vn) (hf : Dt (Wl ar T) H (facesD fs) vf) (ht : Dt (Wl ar T) H (.list ((keptP fs t).map .int)) vt) (po : PoolOk ls ms) (nok : NamesOk ns) (nl : ns.length = 7) (fok : FacesOk fs) (f6 : fs.length ≤ 6) (fn : fs.map (·.name) = ns.take fs.length) (fp : ∀ f ∈ fs, ∀ z ∈ f.signs, z ∈ ls ∨ z ∈ ms) (tb : ∀ z ∈ t, 0 ≤ z ∧ z < 1000) (tl : t.length ≤ 200)
    (q : ∀ y12 y13 y14 y15 y16 y17 y18 y19 y20 y21 H2, Le (Rl K ar as sc T) H H2 → D.nx [some s0, some (.ref ar), x2, some vp, some vn, x5, some vf, some vs, some vt, y9, y10, some (.ref cx), y12, y13, y14, y15, y16, y17, y18, y19, y20, y21] H2) :
    r12_asks K C T D [some s0, some (.ref ar), x2, some vp, some vn, x5, some vf, some vs, some vt, y9, y10, some (.ref cx), y12, y13, y14, y15, y16, y17, y18, y19, y20, y21] H := by
  have kl : (keptP fs t).length ≤ t.length := by rw [← keptN_all]; exact keptN_len fs t _
  have kb : ∀ z ∈ keptP fs t, 0 ≤ z ∧ z < 1000 := fun z hz => tb z (keptN_mem hz)
  have hb := sign_none kb
  have hne := kept_ne fs t
  have s1 := shown_clen fs (keptP fs t)
  have c1 := chosen_len (fs := fs) (t := keptP fs t)
  have fl := fok.ln
  have lf : (fs.map faceD).length = fs.length := List.length_map ..
  refine q_asg (R := Rl K ar as sc T) (N := No) (ev_changes (N' := Wl ar T) (ev_shown rfl hc (e_var rfl ht lw_sub) fl (by omega) hb (wl_nk ok)) (by omega)) ok fun v12 H1 e1 r12 => ?_
  cases r12
  have t1 : EvT (Rl K ar as sc T) (r12_ask1 K C T) [some s0, some (.ref ar), x2, some vp, some vn, x5, some vf, some vs, some vt, y9, y10, some (.ref cx), some (.int (chg (shownP fs (keptP fs t)) : Nat)), y13, y14, y15, y16, y17, y18, y19, y20, y21] H1 false := by
    refine EvT.is (a := (false || decide (none ∈ shownP fs (keptP fs t)))) (t_or (t_cmp (N := Wl ar T) ((e_ne (d := .list []) (e := .list []) (EvP.ev ((ev_missing rfl (hc.le e1 lw_sub) (e_var rfl (ht.le e1 lw_sub) lw_sub) fl (by omega) hb (wl_nk e1.ok)).imp fun d hd => ?_)) (e_lst a_nil (wl_nk e1.ok) (by decide)) lw_sub shaped_nil shaped_nil).is (by rw [eqv_nil]; rfl))) fun _ => t_cmp (N := Wl ar T) (e_noneIn (ev_shown rfl (hc.le e1 lw_sub) (e_var rfl (ht.le e1 lw_sub) lw_sub) fl (by omega) hb (wl_nk e1.ok)))) ?_
    · obtain ⟨xs, rfl, _, mem⟩ := hd
      cases xs with
      | nil => rfl
      | cons z xs =>
        obtain ⟨z1, z2⟩ := (mem z).1 (List.mem_cons_self ..)
        exact absurd z2 (kept_has z1)
    · rw [decide_eq_false kept_none]
      rfl
  refine q_no (R := Rl K ar as sc T) t1 e1.ok fun H2 e2 => ?_
  have e12 := e1.trans e2
  refine q_asgP (R := Rl K ar as sc T) (N := Wl ar T) (ev_more12 rfl rfl po (hp.le e12 lw_sub) e2.ok) e2.ok fun d13 v13 H3 e3 h13 r13 => ?_
  obtain ⟨g, rfl, gok⟩ := h13
  have e13 := e12.trans e3
  refine q_asgZ (R := Rl K ar as sc T) (z_drL (N := Wl ar T) (i := 1) (many := (fs.length : Nat) + 1) rfl (e_add ((e_lenl (N := Wl ar T) (ds := fs.map faceD) (e_var rfl (hf.le e13 lw_sub) lw_sub)).is (by rw [lf])) e_int) (by omega) (by omega)) e3.ok fun z H4 e4 hz => ?_
  obtain ⟨p, rfl⟩ : ∃ p : Nat, z = p := ⟨z.toNat, by omega⟩
  have pl : p ≤ fs.length := by omega
  have e14 := e13.trans e4
  refine q_asg (R := Rl K ar as sc T) (N := Wl ar T) (ev_extra12 rfl rfl (hn.le e14 lw_sub) (r13.le e4 lw_sub) (by omega)) e4.ok fun v15 H5 e5 r15 => ?_
  have e15 := e14.trans e5
  refine q_asg (R := Rl K ar as sc T) (N := Wl ar T) (ev_wider (i := 6) (p := p) (q := p) rfl (hf.le e15 lw_sub) (e_vi rfl) (e_var rfl r15 lw_sub) (e_vi rfl) fl pl pl e5.ok) e5.ok fun v16 H6 e6 r16 => ?_
  have e16 := e15.trans e6
  have xok : FaceOk ⟨ns.getD 6 "", g.rank, g.signs⟩ := ⟨nok.2 _ (getD_mem (by omega)), gok.rk, gok.up, gok.rg, gok.ln⟩
  have t2 := t_more12 (C := C) (σ := [some s0, some (.ref ar), x2, some vp, some vn, x5, some vf, some vs, some vt, y9, y10, some (.ref cx), some (.int (chg (shownP fs (keptP fs t)) : Nat)), some v13, some (.int (p : Int)), some v15, some v16, y17, y18, y19, y20, y21]) (i := 16) (j := 8) (k := 12) rfl rfl rfl r16 (faces_insert fok xok (by omega) (by rw [fn]; exact name_new nok (by omega) (by omega))) (ht.le e16 lw_sub) (by omega) hb (shown_insert pl hne) e6.ok
  refine q_no (R := Rl K ar as sc T) t2 e6.ok fun H7 e7 => ?_
  have e17 := e16.trans e7
  have tf : EvT (Rl K ar as sc T) (tTest (tOp (rNeD K) (tVar 6) (tLst tNil))) [some s0, some (.ref ar), x2, some vp, some vn, x5, some vf, some vs, some vt, y9, y10, some (.ref cx), some (.int (chg (shownP fs (keptP fs t)) : Nat)), some v13, some (.int (p : Int)), some v15, some v16, y17, y18, y19, y20, y21] H7 (!fs.isEmpty) := (t_cmp (N := Wl ar T) (e_ne (d := facesD fs) (e := .list []) (e_var rfl (hf.le e17 lw_sub) lw_sub) (e_lst a_nil (wl_nk e7.ok) (by decide)) lw_sub (ok_shaped (ok_facesD fok) (by decide)) shaped_nil)).is (by
    cases fs with
    | nil => exact congrArg (!·) eqv_nil
    | cons a b => simp [facesD, PyData.eqv, PyData.eqvAll])
  refine q_if (R := Rl K ar as sc T) tf e7.ok (fun c H8 e8 => ?_) (fun c H8 e8 => ?_)
  · have e18 := e17.trans e8
    refine fill12 (t := keptP fs t) (fs := fs) e8.ok (hf.le e18 lw_sub) (ht.le e18 lw_sub) ((((((r13.le e4 lw_sub).le e5 lw_sub).le e6 lw_sub).le e7 lw_sub).le e8 lw_sub)) fok (fun z => by rw [z] at c; cases c) po fp gok (by omega) hb hne rfl fun y16 y17 y18 H9 e9 => ?_
    have e19 := e18.trans e9
    exact cut12 (t := keptP fs t) (fs := fs) e9.ok (hc.le e19 lw_sub) (ht.le e19 lw_sub) fl (by omega) kb rfl fun _ _ _ Ha ea => q _ _ _ _ _ _ _ _ _ _ Ha (e19.trans ea)
  · have e18 := e17.trans e8
    exact cut12 (t := keptP fs t) (fs := fs) e8.ok (hc.le e18 lw_sub) (ht.le e18 lw_sub) fl (by omega) kb rfl fun _ _ _ Ha ea => q _ _ _ _ _ _ _ _ _ _ Ha (e18.trans ea)
theorem rd12_law (vs : List V) (H : Hp) (Q : VK) (E : XK) (h : sp2_law K T vs H Q E) : r12_law K C T { nx := fun _ H' => Q .non H', rt := Q } (start ["_law_script", "_law_row", "_law_turn", "_law_pool_here", "_law_names_here", "_law_some", "_law_faces_here", "_law_signs_here", "_law_text", "_law_begin", "_law_end", "_law_case", "_law_number", "_law_more", "_law_place", "_law_extra", "_law_wider", "_law_k", "_law_filled", "_law_cut", "_law_j", "_law_both"] vs) H := by
  obtain ⟨as, sc, rfl, hsc, tb, k⟩ := h
  refine ⟨_, rfl, by rw [sizeLine_eq]; simp, fun ar har => ?_⟩
  have ok1 : (Rl K ar as sc T).I (upd H ar (.lst [.ref as, .int 0, .int 0, .int 0])) := ⟨⟨⟨0, 0, 0, Int.le_refl _, upd_same⟩, hsc.imp (fun ⟨o, q⟩ => ⟨o, by rw [upd_ne (fun e => by rw [e, har] at q; cases q)]; exact q⟩) id⟩, rt_upd tb (rt_not tb har)⟩
  show tSeq (tFor (iRng1 (tCons (tC (.int 3)) tNil)) (gName 2) (r12_turn K C T)) (tRet (tC (.bl true))) { nx := fun _ H' => Q .non H', rt := Q } [some (.ref as), some (.ref ar), none, none, none, none, none, none, none, none, none, none, none, none, none, none, none, none, none, none, none, none] _
  refine q_forZ (R := Rl K ar as sc T) (φ := fun n => n = 3) (fun i σ' H' => (∃ y2 y3 y4 y5 y6 y7 y8 y9 ya yb yc yd ye yf yg yh yi yj yk yl, σ' = [some (.ref as), some (.ref ar), y2, y3, y4, y5, y6, y7, y8, y9, ya, yb, yc, yd, ye, yf, yg, yh, yi, yj, yk, yl]) ∧ (Rl K ar as sc T).I H') (fun H1 e Q q => q 3 H1 (Le.refl e.ok) rfl) ok1 (fun n q => by rw [q]; decide) (fun n H1 e1 _ => ⟨⟨_, _, _, _, _, _, _, _, _, _, _, _, _, _, _, _, _, _, _, _, rfl⟩, e1.ok⟩) (fun n i σ' H' hn hi p => ?_) (fun n σ' H' hn p => ?_)
  · obtain ⟨⟨y2, y3, y4, y5, y6, y7, y8, y9, ya, yb, yc, yd, ye, yf, yg, yh, yi, yj, yk, yl, rfl⟩, ok⟩ := p
    refine q_asgP (R := Rl K ar as sc T) (N := Wl ar T) (ev_pool rfl (wl_nk ok)) ok fun d3 vp H1 e1 h3 rp => ?_
    obtain ⟨ls, ms, rfl, po⟩ := h3
    refine q_asgP (R := Rl K ar as sc T) (N := Wl ar T) (ev_names (i := 1) rfl (by decide) (wl_nk e1.ok)) e1.ok fun d4 vn H2 e2 h4 rn => ?_
    obtain ⟨ns, rfl, nok, nl⟩ := h4
    refine q_asgP (R := Rl K ar as sc T) (N := Wl ar T) (evm_faces (i := 1) (j := 3) rfl rfl po (rp.le e2 lw_sub) (by decide) (wl_nk e2.ok)) e2.ok fun d5 vg H3 e3 h5 rg => ?_
    obtain ⟨gs, rfl, gok, gl, gp⟩ := h5
    have nl7 : ns.length = 7 := by omega
    have gl6 : gs.length ≤ 6 := by omega
    refine q_asg (R := Rl K ar as sc T) (N := Wl ar T) (ev_faces12 (ns := ns) (gs := gs) rfl rfl rfl (rn.le e3 lw_sub) rg (by omega) (by omega) e3.ok) e3.ok fun vf H4 e4 rf => ?_
    have e24 := e2.trans (e3.trans e4)
    refine q_asgP (R := Rl K ar as sc T) (N := Wl ar T) (ev_signs (i := 1) (j := 3) rfl rfl po (rp.le e24 lw_sub) (by decide) (wl_nk e4.ok)) e4.ok fun d7 vs H5 e5 h7 rs => ?_
    obtain ⟨t, rfl, tok⟩ := h7
    have fok : FacesOk (renamed ns gs) := renamed_ok nok (by omega) gok
    have rl := renamed_len ns gs
    have fl := fok.ln
    refine q_asg (R := Rl K ar as sc T) (N := Wl ar T) (d := .list []) (e_lst a_nil (wl_nk e5.ok) (by decide)) e5.ok fun v8 H6 e6 r8 => ?_
    refine text12 (fs := renamed ns gs) (t := t) e6.ok ((rf.le e5 lw_sub).le e6 lw_sub) (rs.le e6 lw_sub) r8 fl tok.2 fun y9 y10 vt H7 e7 rt => ?_
    have rf7 := ((rf.le e5 lw_sub).le e6 lw_sub).le e7 lw_sub
    refine q_case (i := 6) (j := 11) rfl rf7.no fok e7.ok.2 fun cx H8 e8 c8 => ?_
    have e8' : Le (Rl K ar as sc T) H7 H8 := e8.rt e7.ok.1
    have e58 := (e5.trans e6).trans (e7.trans e8')
    exact asks12 (t := t) (ns := ns) (fs := renamed ns gs) e8'.ok (c8.weak (wl_dom e7.ok)) ((rp.le e24 lw_sub).le e58 lw_sub) (((rn.le e3 lw_sub).le e4 lw_sub).le e58 lw_sub) (rf7.le e8' lw_sub) (rt.le e8' lw_sub) po nok nl7 fok (by omega) (by rw [renamed_names (by omega), rl]) (renamed_signs gp) tok.1 tok.2 fun _ _ _ _ _ _ _ _ _ _ H9 e9 => ⟨⟨_, _, _, _, _, _, _, _, _, _, _, _, _, _, _, _, _, _, _, _, rfl⟩, e9.ok⟩
  · exact k H'
end
end FF
set_option Elab.async false
set_option linter.all false
set_option maxRecDepth 100000
set_option maxHeartbeats 4000000
/-! 12: the derivations -/
namespace FF
open PySem PySem.Spec PyProof.Rows L2 RT
open GxR (TabB TabG Tabbed)
def topS (i : Nat) : Stmt := PySem.Challenge.pw_fontfall_k12_whole_more_signs_less_chang.main.body.getD i (.Pass ⟨0, 0, 0, 0⟩)
abbrev s_is_sign : Stmt := topS 7
abbrev n_is_sign : List Str := ["number"]
theorem sc_is_sign : FnScope n_is_sign ["number"] (defScope s_is_sign) := ⟨rfl, rfl, rfl, by decide +kernel, rfl, by decide +kernel, by decide +kernel⟩
abbrev s_is_letter : Stmt := topS 8
abbrev n_is_letter : List Str := ["sign"]
theorem sc_is_letter : FnScope n_is_letter ["sign"] (defScope s_is_letter) := ⟨rfl, rfl, rfl, by decide +kernel, rfl, by decide +kernel, by decide +kernel⟩
abbrev s_refuse_no_text : Stmt := topS 11
abbrev n_refuse_no_text : List Str := ["text", "place", "number"]
theorem sc_refuse_no_text : FnScope n_refuse_no_text ["text"] (defScope s_refuse_no_text) := ⟨rfl, rfl, rfl, by decide +kernel, rfl, by decide +kernel, by decide +kernel⟩
abbrev s_parted : Stmt := topS 10
abbrev n_parted : List Str := ["text", "clusters", "sign", "cluster"]
theorem sc_parted : FnScope n_parted ["text"] (defScope s_parted) := ⟨rfl, rfl, rfl, by decide +kernel, rfl, by decide +kernel, by decide +kernel⟩
abbrev s_is_name : Stmt := topS 33
abbrev n_is_name : List Str := ["name"]
theorem sc_is_name : FnScope n_is_name ["name"] (defScope s_is_name) := ⟨rfl, rfl, rfl, by decide +kernel, rfl, by decide +kernel, by decide +kernel⟩
abbrev s_is_rising : Stmt := topS 35
abbrev n_is_rising : List Str := ["numbers"]
theorem sc_is_rising : FnScope n_is_rising ["numbers"] (defScope s_is_rising) := ⟨rfl, rfl, rfl, by decide +kernel, rfl, by decide +kernel, by decide +kernel⟩
abbrev s_are_signs_of_face : Stmt := topS 34
abbrev n_are_signs_of_face : List Str := ["signs"]
theorem sc_are_signs_of_face : FnScope n_are_signs_of_face ["signs"] (defScope s_are_signs_of_face) := ⟨rfl, rfl, rfl, by decide +kernel, rfl, by decide +kernel, by decide +kernel⟩
abbrev s_is_face : Stmt := topS 32
abbrev n_is_face : List Str := ["name", "rank", "signs"]
theorem sc_is_face : FnScope n_is_face ["name", "rank", "signs"] (defScope s_is_face) := ⟨rfl, rfl, rfl, by decide +kernel, rfl, by decide +kernel, by decide +kernel⟩
abbrev s_first_bad_face : Stmt := topS 31
abbrev n_first_bad_face : List Str := ["faces", "ahead", "number", "name", "rank", "signs"]
theorem sc_first_bad_face : FnScope n_first_bad_face ["faces"] (defScope s_first_bad_face) := ⟨rfl, rfl, rfl, by decide +kernel, rfl, by decide +kernel, by decide +kernel⟩
abbrev s_refuse_no_case : Stmt := topS 30
abbrev n_refuse_no_case : List Str := ["faces", "number"]
theorem sc_refuse_no_case : FnScope n_refuse_no_case ["faces"] (defScope s_refuse_no_case) := ⟨rfl, rfl, rfl, by decide +kernel, rfl, by decide +kernel, by decide +kernel⟩
abbrev s_having_faces : Stmt := topS 22
abbrev n_having_faces : List Str := ["faces", "cluster", "number", "_", "signs"]
theorem sc_having_faces : FnScope n_having_faces ["faces", "cluster"] (defScope s_having_faces) := ⟨rfl, rfl, rfl, by decide +kernel, rfl, by decide +kernel, by decide +kernel⟩
abbrev s_choices : Stmt := topS 18
abbrev n_choices : List Str := ["case", "text", "cluster"]
theorem sc_choices : FnScope n_choices ["case", "text"] (defScope s_choices) := ⟨rfl, rfl, rfl, by decide +kernel, rfl, by decide +kernel, by decide +kernel⟩
abbrev s_missing : Stmt := topS 19
abbrev n_missing : List Str := ["case", "text", "faces", "sign"]
theorem sc_missing : FnScope n_missing ["case", "text"] (defScope s_missing) := ⟨rfl, rfl, rfl, by decide +kernel, rfl, by decide +kernel, by decide +kernel⟩
abbrev s_tellable : Stmt := topS 13
abbrev n_tellable : List Str := ["faces"]
theorem sc_tellable : FnScope n_tellable ["faces"] (defScope s_tellable) := ⟨rfl, rfl, rfl, by decide +kernel, rfl, by decide +kernel, by decide +kernel⟩
abbrev s_longer : Stmt := topS 16
abbrev n_longer : List Str := ["ahead", "face", "face_had", "ranks", "changed", "moved", "ranked", "row"]
theorem sc_longer : FnScope n_longer ["ahead", "face", "face_had", "ranks"] (defScope s_longer) := ⟨rfl, rfl, rfl, by decide +kernel, rfl, by decide +kernel, by decide +kernel⟩
abbrev s_least_longer : Stmt := topS 15
abbrev n_least_longer : List Str := ["least", "face", "face_had", "ranks", "ahead"]
theorem sc_least_longer : FnScope n_least_longer ["least", "face", "face_had", "ranks"] (defScope s_least_longer) := ⟨rfl, rfl, rfl, by decide +kernel, rfl, by decide +kernel, by decide +kernel⟩
abbrev s_least_row : Stmt := topS 14
abbrev n_least_row : List Str := ["choices", "ranks", "had", "least", "faces", "face_had", "face"]
theorem sc_least_row : FnScope n_least_row ["choices", "ranks", "had"] (defScope s_least_row) := ⟨rfl, rfl, rfl, by decide +kernel, rfl, by decide +kernel, by decide +kernel⟩
abbrev s_shown : Stmt := topS 20
abbrev n_shown : List Str := ["case", "text", "faces_of", "ranks", "_", "rank"]
theorem sc_shown : FnScope n_shown ["case", "text"] (defScope s_shown) := ⟨rfl, rfl, rfl, by decide +kernel, rfl, by decide +kernel, by decide +kernel⟩
abbrev s_changes : Stmt := topS 21
abbrev n_changes : List Str := ["row", "ahead", "face"]
theorem sc_changes : FnScope n_changes ["row"] (defScope s_changes) := ⟨rfl, rfl, rfl, by decide +kernel, rfl, by decide +kernel, by decide +kernel⟩
abbrev s_init : Stmt := inClass (topS 29) 0
abbrev n_init : List Str := ["self", "faces"]
theorem sc_init : FnScope n_init ["self", "faces"] (defScope s_init) := ⟨rfl, rfl, rfl, by decide +kernel, rfl, by decide +kernel, by decide +kernel⟩
abbrev s_facesM : Stmt := inClass (topS 29) 1
abbrev n_facesM : List Str := ["self"]
theorem sc_facesM : FnScope n_facesM ["self"] (defScope s_facesM) := ⟨rfl, rfl, rfl, by decide +kernel, rfl, by decide +kernel, by decide +kernel⟩
abbrev s__law_taken : Stmt := topS 37
abbrev n__law_taken : List Str := ["_law_row", "_law_many", "_law_found", "_law_cell"]
theorem sc__law_taken : FnScope n__law_taken ["_law_row", "_law_many"] (defScope s__law_taken) := ⟨rfl, rfl, rfl, by decide +kernel, rfl, by decide +kernel, by decide +kernel⟩
abbrev s__law_pool : Stmt := topS 38
abbrev n__law_pool : List Str := ["_law_row", "_law_begin", "_law_letters", "_law_marks", "_law_k"]
theorem sc__law_pool : FnScope n__law_pool ["_law_row"] (defScope s__law_pool) := ⟨rfl, rfl, rfl, by decide +kernel, rfl, by decide +kernel, by decide +kernel⟩
abbrev s__law_names : Stmt := topS 39
abbrev n__law_names : List Str := ["_law_row", "_law_many", "_law_turn", "_law_base", "_law_cut", "_law_k"]
theorem sc__law_names : FnScope n__law_names ["_law_row", "_law_many"] (defScope s__law_names) := ⟨rfl, rfl, rfl, by decide +kernel, rfl, by decide +kernel, by decide +kernel⟩
abbrev s__law_faces : Stmt := topS 40
abbrev n__law_faces : List Str := ["_law_row", "_law_pool_here", "_law_most", "_law_names_here", "_law_found", "_law_name", "_law_many", "_law_letters", "_law_marks", "_law_sign"]
theorem sc__law_faces : FnScope n__law_faces ["_law_row", "_law_pool_here", "_law_most"] (defScope s__law_faces) := ⟨rfl, rfl, rfl, by decide +kernel, rfl, by decide +kernel, by decide +kernel⟩
abbrev s__law_signs : Stmt := topS 41
abbrev n__law_signs : List Str := ["_law_row", "_law_pool_here", "_law_most", "_law_found", "_law_k", "_law_way", "_law_some"]
theorem sc__law_signs : FnScope n__law_signs ["_law_row", "_law_pool_here", "_law_most"] (defScope s__law_signs) := ⟨rfl, rfl, rfl, by decide +kernel, rfl, by decide +kernel, by decide +kernel⟩
abbrev s__law_clusters : Stmt := topS 42
abbrev n__law_clusters : List Str := ["_law_text", "_law_begins", "_law_ends", "_law_k"]
theorem sc__law_clusters : FnScope n__law_clusters ["_law_text"] (defScope s__law_clusters) := ⟨rfl, rfl, rfl, by decide +kernel, rfl, by decide +kernel, by decide +kernel⟩
abbrev s__law_having : Stmt := topS 43
abbrev n__law_having : List Str := ["_law_faces_here", "_law_signs_here", "_law_k", "_law_sign"]
theorem sc__law_having : FnScope n__law_having ["_law_faces_here", "_law_signs_here"] (defScope s__law_having) := ⟨rfl, rfl, rfl, by decide +kernel, rfl, by decide +kernel, by decide +kernel⟩
abbrev s_law : Stmt := topS 44
abbrev n_law : List Str := ["_law_script", "_law_row", "_law_turn", "_law_pool_here", "_law_names_here", "_law_some", "_law_faces_here", "_law_signs_here", "_law_text", "_law_begin", "_law_end", "_law_case", "_law_number", "_law_more", "_law_place", "_law_extra", "_law_wider", "_law_k", "_law_filled", "_law_cut", "_law_j", "_law_both"]
theorem sc_law : FnScope n_law ["_law_script"] (defScope s_law) := ⟨rfl, rfl, rfl, by decide +kernel, rfl, by decide +kernel, by decide +kernel⟩
section
variable {P : Program} {w : World} {K : PySem.W.Frag} {mg : Str → Option Value} {base : Heap} {j k : Nat} {TT : List Addr}
theorem d_is_sign (T : Bi mg) (M : ∃ t, mg "LAST_SIGN" = some (Value.int 999 t)) (f : Addr) (cdv : Value) (A : Around) (outer : List Env) (s : Shared) (H : Hp) (E : XK) (hr : Room k (A.deeper (envOfC "is_sign" (defScope s_is_sign) s.heap.objs.size f cdv))) :
    PSs (cxOf CX0 P w K mg base n_is_sign "is_sign" (defScope s_is_sign) f cdv A outer s H E).nox (defBody s_is_sign) (r_is_sign K) := (pss_one (ps_ret (pe_chain op_le op_le pe_int (pv 0) (pe_gint (by rfl) M))))
theorem d_is_letter (T : Bi mg) (M : ∃ t, mg "FIRST_MARK" = some (Value.int 800 t)) (f : Addr) (cdv : Value) (A : Around) (outer : List Env) (s : Shared) (H : Hp) (E : XK) (hr : Room k (A.deeper (envOfC "is_letter" (defScope s_is_letter) s.heap.objs.size f cdv))) :
    PSs (cxOf CX0 P w K mg base n_is_letter "is_letter" (defScope s_is_letter) f cdv A outer s H E).nox (defBody s_is_letter) (r_is_letter K) := (pss_one (ps_ret (pe_cmpR op_lt (pv 0) (pe_gint (by rfl) M) (nomark _))))
theorem d_refuse_no_text (hj : j ≤ k) (T : Bi mg) (C_is_sign : Cal P w K mg base CX0 "is_sign" j ["number"] (sp_is_sign K)) (f : Addr) (cdv : Value) (A : Around) (outer : List Env) (s : Shared) (H : Hp) (E : XK) (hr : Room k (A.deeper (envOfC "refuse_no_text" (defScope s_refuse_no_text) s.heap.objs.size f cdv))) :
    PSs (cxOf CX0 P w K mg base n_refuse_no_text "refuse_no_text" (defScope s_refuse_no_text) f cdv A outer s H E).nox (defBody s_refuse_no_text) (r_refuseN K) := 
  (pss_one (ps_for PassesOwn.never rfl (pi_enum (by rfl) T.enumerate (pa_cons (pv 0) pa_nil)) (pg_tup rfl (pgs_cons (pg_name (i := 1) sc_refuse_no_text.nd rfl (Or.inl rfl)) (pgs_cons (pg_name (i := 2) sc_refuse_no_text.nd rfl (Or.inl rfl)) pgs_nil)))
    (pss_one (ps_if (pt_not (pt_truth (pe_cal C_is_sign (hr.mono hj) (pa_cons (pv 2) pa_nil)) (by intro _; rfl))) (pss_one ps_never) pss_nil))))
theorem d_parted (hj : j ≤ k) (T : Bi mg) (C_refuse_no_text : Cal P w K mg base CX0 "refuse_no_text" j ["text"] sp_refuseN) (C_is_letter : Cal P w K mg base CX0 "is_letter" j ["sign"] (sp_is_letter K)) (f : Addr) (cdv : Value) (A : Around) (outer : List Env) (s : Shared) (H : Hp) (E : XK) (hr : Room k (A.deeper (envOfC "parted" (defScope s_parted) s.heap.objs.size f cdv))) :
    PSs (cxOf CX0 P w K mg base n_parted "parted" (defScope s_parted) f cdv A outer s H E).nox (defBody s_parted) (r_partedN K) := 
  (pss_cons (ps_expr (pe_cal C_refuse_no_text (hr.mono hj) (pa_cons (pv 0) pa_nil)))
      (pss_cons (ps_set (i := 1) sc_parted.nd rfl (Or.inl rfl) (pe_lst pa_nil))
      (pss_cons (ps_for PassesOwn.never rfl (pi_list (pv 0)) (pg_name (i := 2) sc_parted.nd rfl (Or.inl rfl)) (pss_one (ps_if (PW.pt (pw_or (pt_truth (pe_cal C_is_letter (hr.mono hj) (pa_cons (pv 2) pa_nil)) (by intro _; rfl)) (pw_or1 (pt_not (pt_truth (pv 1) (by intro _; rfl)))))) (pss_one (ps_expr (pe_bm PySem.F.plainAttrs_list PySem.F.slot_list_append PySem.F.type_list_append mt_append (pv 1) (pa_cons (pe_lst (pa_cons (pv 2) pa_nil)) pa_nil)))) (pss_one (ps_expr (pe_bm PySem.F.plainAttrs_list PySem.F.slot_list_append PySem.F.type_list_append mt_append (pe_ix ix_seq (pv 1) (pe_un un_neg pe_int) (fun _ _ => rfl)) (pa_cons (pv 2) pa_nil)))))))
      (pss_one (ps_ret (pe_lc (own := [("cluster", 3)]) (g := (gName 3)) (tt := tYes) rfl sc_parted.nd (pi_list (pv 1)) (blkOk_by (own := [("cluster", 3)]) (N := n_parted) (sc := defScope s_parted) (by decide +kernel)) (fun _ _ _ _ _ => (pg_name (i := 3) sc_parted.nd rfl (Or.inl rfl))) (fun _ _ _ _ _ => pts_nil) (fun _ _ _ _ _ => (pe_callTy call_tupU (by rfl) T.tuple (by decide +kernel) (pa_cons (pv 3) pa_nil)))))))))
theorem d_is_name {c pt : Addr} (T : Bi mg) (TB : TabB base mg c pt) (M8 : ∃ t, mg "LONGEST_NAME" = some (Value.int 8 t)) {ts : Tok} (MS : mg "SMALL_LETTERS" = some (Value.str abc ts)) (f : Addr) (A : Around) (outer : List Env) (s : Shared) (H : Hp) (E : XK) (hr : Room k (A.deeper (envOfC "is_name" (defScope s_is_name) s.heap.objs.size f (.ref c)))) :
    PSs (cxOf CX0 P w K mg base n_is_name "is_name" (defScope s_is_name) f (.ref c) A outer s H E).nox (defBody s_is_name) (r_is_name K pt) := 
  (pss_one (ps_ret (pe_and (pe_chain op_le op_le pe_int (pe_callB call_lenU (by rfl) T.len PySem.boot_len (pa_cons (pv 0) pa_nil)) (pe_gint (by rfl) M8)) (pe_one (pe_allG hr (by rfl) T.all TB rfl (genK_by (by rfl)) (pv 0) (elt_inText (genK_by (by rfl)) (by rfl) MS) (fun _ => rfl))))))
theorem d_is_rising {c pt : Addr} (T : Bi mg) (TB : TabB base mg c pt) (f : Addr) (A : Around) (outer : List Env) (s : Shared) (H : Hp) (E : XK) (hr : Room k (A.deeper (envOfC "is_rising" (defScope s_is_rising) s.heap.objs.size f (.ref c)))) :
    PSs (cxOf CX0 P w K mg base n_is_rising "is_rising" (defScope s_is_rising) f (.ref c) A outer s H E).nox (defBody s_is_rising) (r_is_rising K pt) := 
  (pss_one (ps_ret (pe_allLt hr (by rfl) T.all (by rfl) T.zip TB rfl ⟨(genK_by (by rfl)), by rfl, by decide⟩ (pa_cons (pv 0) (pa_cons (pe_slice sl_tupA (pv 0) (po_some pe_int) po_none) pa_nil)) (hs := fun _ => rfl))))
theorem d_are_signs_of_face {c pt : Addr} (hj : j ≤ k) (hk : 1 ≤ k) (T : Bi mg) (TB : TabB base mg c pt) (M : ∃ t, mg "MOST_SIGNS" = some (Value.int 100 t)) (C_is_rising : Cal P w K mg base CX0 "is_rising" j ["numbers"] (sp_is_rising TT)) {fs : Addr} (hm : mg "is_sign" = some (.ref fs)) (hkp : PySem.W.keepIn K (.ref fs) = true) (qf : QuietB P w K mg fs isSign) (f : Addr) (A : Around) (outer : List Env) (s : Shared) (H : Hp) (E : XK) (hr : Room k (A.deeper (envOfC "are_signs_of_face" (defScope s_are_signs_of_face) s.heap.objs.size f (.ref c)))) :
    PSs (cxOf CX0 P w K mg base n_are_signs_of_face "are_signs_of_face" (defScope s_are_signs_of_face) f (.ref c) A outer s H E).nox (defBody s_are_signs_of_face) (r_are_signs K TT pt) := 
  (pss_one (ps_ret (pe_and (pe_cmpR op_le (pe_callB call_lenU (by rfl) T.len PySem.boot_len (pa_cons (pv 0) pa_nil)) (pe_gint (by rfl) M) (nomark _)) (pe_and (pe_allG hr (by rfl) T.all TB rfl (genK_by (by rfl)) (pv 0) (elt_quiet (k := 0) (hr.mono hk) (genK_by (by rfl)) (by rfl) hm hkp qf) (fun _ => rfl)) (pe_one (pe_cal C_is_rising (hr.mono hj) (pa_cons (pv 0) pa_nil)))))))
theorem d_is_face (hj : j ≤ k) (T : Bi mg) (M : ∃ t, mg "HIGHEST_RANK" = some (Value.int 9 t)) (C_is_name : Cal P w K mg base CX0 "is_name" j ["name"] (sp_is_name TT)) (C_are_signs_of_face : Cal P w K mg base CX0 "are_signs_of_face" j ["signs"] (sp_are_signs TT)) (f : Addr) (cdv : Value) (A : Around) (outer : List Env) (s : Shared) (H : Hp) (E : XK) (hr : Room k (A.deeper (envOfC "is_face" (defScope s_is_face) s.heap.objs.size f cdv))) :
    PSs (cxOf CX0 P w K mg base n_is_face "is_face" (defScope s_is_face) f cdv A outer s H E).nox (defBody s_is_face) (r_is_face TT) := 
  (pss_one (ps_ret (pe_and (pe_cal C_is_name (hr.mono hj) (pa_cons (pv 0) pa_nil)) (pe_and (pe_chain op_le op_le pe_int (pv 1) (pe_gint (by rfl) M)) (pe_one (pe_cal C_are_signs_of_face (hr.mono hj) (pa_cons (pv 2) pa_nil)))))))
theorem d_first_bad_face (hj : j ≤ k) (T : Bi mg) (C_is_face : Cal P w K mg base CX0 "is_face" j ["name", "rank", "signs"] (sp_is_face TT)) (f : Addr) (cdv : Value) (A : Around) (outer : List Env) (s : Shared) (H : Hp) (E : XK) (hr : Room k (A.deeper (envOfC "first_bad_face" (defScope s_first_bad_face) s.heap.objs.size f cdv))) :
    PSs (cxOf CX0 P w K mg base n_first_bad_face "first_bad_face" (defScope s_first_bad_face) f cdv A outer s H E).nox (defBody s_first_bad_face) (r_first_bad P w K TT) := 
  (pss_cons (ps_set (i := 1) sc_first_bad_face.nd rfl (Or.inl rfl) (pe_callTy0 cr_set0K (by rfl) T.set (by decide +kernel)))
    (pss_cons (ps_for PassesOwn.never rfl (pi_enum (by rfl) T.enumerate (pa_cons (pv 0) pa_nil)) (pg_tup rfl (pgs_cons (pg_name (i := 2) sc_first_bad_face.nd rfl (Or.inl rfl)) (pgs_cons (pg_tup rfl (pgs_cons (pg_name (i := 3) sc_first_bad_face.nd rfl (Or.inl rfl)) (pgs_cons (pg_name (i := 4) sc_first_bad_face.nd rfl (Or.inl rfl)) (pgs_cons (pg_name (i := 5) sc_first_bad_face.nd rfl (Or.inl rfl)) pgs_nil)))) pgs_nil)))
      (pss_cons (ps_if (PW.pt (pw_or (pt_cmpR or_sinK (pv 3) (pv 1) (by rfl)) (pw_or1 (pt_not (pt_truth (pe_cal C_is_face (hr.mono hj) (pa_cons (pv 3) (pa_cons (pv 4) (pa_cons (pv 5) pa_nil)))) (by intro _; rfl)))))) (pss_one (ps_ret (pv 2))) pss_nil)
        (pss_one (ps_expr (pe_saddK (pv 1) (pa_cons (pv 3) pa_nil))))))
    (pss_one (ps_ret pe_non))))
theorem d_refuse_no_case (hj : j ≤ k) (T : Bi mg) (M : ∃ t, mg "MOST_FACES" = some (Value.int 8 t)) (C_first_bad_face : Cal P w K mg base CX0 "first_bad_face" j ["faces"] (sp_first_bad TT)) (f : Addr) (cdv : Value) (A : Around) (outer : List Env) (s : Shared) (H : Hp) (E : XK) (hr : Room k (A.deeper (envOfC "refuse_no_case" (defScope s_refuse_no_case) s.heap.objs.size f cdv))) :
    PSs (cxOf CX0 P w K mg base n_refuse_no_case "refuse_no_case" (defScope s_refuse_no_case) f cdv A outer s H E).nox (defBody s_refuse_no_case) (r_refuse_caseN K TT) := 
  (pss_cons (ps_if (pt_cmpR op_gt (pe_callB call_lenU (by rfl) T.len PySem.boot_len (pa_cons (pv 0) pa_nil)) (pe_gint (by rfl) M) (nomark _)) (pss_one ps_never) pss_nil)
    (pss_cons (ps_set (i := 1) sc_refuse_no_case.nd rfl (Or.inl rfl) (pe_cal C_first_bad_face (hr.mono hj) (pa_cons (pv 0) pa_nil)))
    (pss_one (ps_if (pt_cmpR op_isNotU (pv 1) pe_non (nomark _)) (pss_one ps_never) pss_nil))))
theorem d_init (hj : j ≤ k) (T : Bi mg) (C_refuse_no_case : Cal P w K mg base CX0 "refuse_no_case" j ["faces"] (sp_refuse_caseN TT)) (f : Addr) (cdv : Value) (A : Around) (outer : List Env) (s : Shared) (H : Hp) (E : XK) (hr : Room k (A.deeper (envOfC "Case.__init__" (defScope s_init) s.heap.objs.size f cdv))) :
    PSs (cxOf CX0 P w K mg base n_init "Case.__init__" (defScope s_init) f cdv A outer s H E).nox (defBody s_init) (r_init K TT) := 
  (pss_cons (ps_expr (pe_cal C_refuse_no_case (hr.mono hj) (pa_cons (pv 1) pa_nil))) (pss_one (ps_fld (pv 0) (pe_callTy call_listU (by rfl) T.list (by decide +kernel) (pa_cons (pv 1) pa_nil)) rfl)))
theorem d_facesM (T : Bi mg) (f : Addr) (cdv : Value) (A : Around) (outer : List Env) (s : Shared) (H : Hp) (E : XK) (hr : Room k (A.deeper (envOfC "Case.faces" (defScope s_facesM) s.heap.objs.size f cdv))) :
    PSs (cxOf CX0 P w K mg base n_facesM "Case.faces" (defScope s_facesM) f cdv A outer s H E).nox (defBody s_facesM) (r_faces K) := 
  (pss_one (ps_ret (pe_callTy call_listU (by rfl) T.list (by decide +kernel) (pa_cons (pe_fld (pv 0) rfl) pa_nil))))
theorem d_having_faces {c pt : Addr} (T : Bi mg) (TB : TabB base mg c pt) (f : Addr) (A : Around) (outer : List Env) (s : Shared) (H : Hp) (E : XK) (hr : Room k (A.deeper (envOfC "having_faces" (defScope s_having_faces) s.heap.objs.size f (.ref c)))) :
    PSs (cxOf CX0 P w K mg base n_having_faces "having_faces" (defScope s_having_faces) f (.ref c) A outer s H E).nox (defBody s_having_faces) (r_having K pt) := 
  (pss_one (ps_ret (pe_lc (own := [("number", 2), ("_", 3), ("signs", 4)]) (g := (gTup K 2 (gCons (gName 2) (gCons (gTup K 3 (gCons (gName 3) (gCons (gName 3) (gCons (gName 4) gNil)))) gNil)))) (tt := (tTru K (tAllG pt (cIn K 4) (tVar 1)))) rfl sc_having_faces.nd (pi_enum (by rfl) T.enumerate (pa_cons (pv 0) pa_nil)) (blkOk_by (own := [("number", 2), ("_", 3), ("signs", 4)]) (N := n_having_faces) (sc := defScope s_having_faces) (by decide +kernel))
    (fun _ _ _ _ _ => (pg_tup rfl (pgs_cons (pg_name (i := 2) sc_having_faces.nd rfl (Or.inl rfl)) (pgs_cons (pg_tup rfl (pgs_cons (pg_name (i := 3) sc_having_faces.nd rfl (Or.inl rfl)) (pgs_cons (pg_name (i := 3) sc_having_faces.nd rfl (Or.inl rfl)) (pgs_cons (pg_name (i := 4) sc_having_faces.nd rfl (Or.inr rfl)) pgs_nil)))) pgs_nil))))
    (fun _ _ _ _ _ => (pts_one (pt_truth (pe_allG hr (by rfl) T.all TB rfl (genK_by (by rfl)) (pv 1) (elt_inSeq (genK_by (by rfl)) (by rfl) (.inl rfl) (by rfl)) (fun _ => rfl)) (by intro _; rfl)))) (fun _ _ _ _ _ => (pv 2)))))
theorem d_choices (hj : j ≤ k) (hk : 1 ≤ k) (T : Bi mg) {cC fF : Addr} {fdF : FuncData} (cl : L2.Cls K cC) (mF : Meth K cC "faces" fF) (GF : FnOk P w K mg base CX0 1 fF fdF ["self"] (sp_faces cC)) (bF : Binds K fdF ["self"] []) (C_parted : Cal P w K mg base CX0 "parted" j ["text"] sp_partedN) (C_having_faces : Cal P w K mg base CX0 "having_faces" j ["faces", "cluster"] (sp_having TT)) (f : Addr) (cdv : Value) (A : Around) (outer : List Env) (s : Shared) (H : Hp) (E : XK) (hr : Room k (A.deeper (envOfC "choices" (defScope s_choices) s.heap.objs.size f cdv))) :
    PSs (cxOf CX0 P w K mg base n_choices "choices" (defScope s_choices) f cdv A outer s H E).nox (defBody s_choices) (r_choices K cC TT) := 
  (pss_one (ps_ret (pe_lc (own := [("cluster", 2)]) (g := (gName 2)) (tt := tYes) rfl sc_choices.nd (pi_list (pe_cal C_parted (hr.mono hj) (pa_cons (pv 1) pa_nil))) (blkOk_by (own := [("cluster", 2)]) (N := n_choices) (sc := defScope s_choices) (by decide +kernel)) (fun _ _ _ _ _ => (pg_name (i := 2) sc_choices.nd rfl (Or.inl rfl))) (fun _ _ _ _ _ => pts_nil) (fun _ _ _ _ _ => (pe_cal C_having_faces (hr.mono hj) (pa_cons (pe_meth0 (pv 0) cl mF GF (hr.mono hk) bF .nil pass0) (pa_cons (pv 2) pa_nil)))))))
theorem d_missing (hj : j ≤ k) (hk : 1 ≤ k) (T : Bi mg) {cC fF : Addr} {fdF : FuncData} (cl : L2.Cls K cC) (mF : Meth K cC "faces" fF) (GF : FnOk P w K mg base CX0 1 fF fdF ["self"] (sp_faces cC)) (bF : Binds K fdF ["self"] []) (C_refuse_no_text : Cal P w K mg base CX0 "refuse_no_text" j ["text"] sp_refuseN) (C_having_faces : Cal P w K mg base CX0 "having_faces" j ["faces", "cluster"] (sp_having TT)) (f : Addr) (cdv : Value) (A : Around) (outer : List Env) (s : Shared) (H : Hp) (E : XK) (hr : Room k (A.deeper (envOfC "missing" (defScope s_missing) s.heap.objs.size f cdv))) :
    PSs (cxOf CX0 P w K mg base n_missing "missing" (defScope s_missing) f cdv A outer s H E).nox (defBody s_missing) (r_missing w K cC TT) := 
  (pss_cons (ps_expr (pe_cal C_refuse_no_text (hr.mono hj) (pa_cons (pv 1) pa_nil)))
    (pss_cons (ps_set (i := 2) sc_missing.nd rfl (Or.inr rfl) (pe_meth0 (pv 0) cl mF GF (hr.mono hk) bF .nil pass0))
    (pss_one (ps_ret (pe_callB (cr_sortSet rfl) (by rfl) T.sorted (by decide +kernel) (pa_cons (pe_scI (own := [("sign", 3)]) rfl sc_missing.nd (pi_list (pv 1)) (blkOk_by (own := [("sign", 3)]) (N := n_missing) (sc := defScope s_missing) (by decide +kernel)) (fun _ _ _ _ _ => (pg_name (i := 3) sc_missing.nd rfl (Or.inl rfl))) (fun _ _ _ _ _ => (pts_one (pt_not (pt_truth (pe_cal C_having_faces (hr.mono hj) (pa_cons (pv 2) (pa_cons (pe_tup (pa_cons (pv 3) pa_nil)) pa_nil))) (by intro _; rfl))))) (fun _ _ _ _ _ => (pv 3))) pa_nil))))))
theorem d_tellable (T : Bi mg)  (f : Addr) (cdv : Value) (A : Around) (outer : List Env) (s : Shared) (H : Hp) (E : XK) (hr : Room k (A.deeper (envOfC "tellable" (defScope s_tellable) s.heap.objs.size f cdv))) :
    PSs (cxOf CX0 P w K mg base n_tellable "tellable" (defScope s_tellable) f cdv A outer s H E).nox (defBody s_tellable) (r_tellable K) := 
  (pss_one (ps_ret (pe_orT (pv 0) (pe_one (pe_lst (pa_cons pe_non pa_nil))))))
theorem d_longer (T : Bi mg)  (f : Addr) (cdv : Value) (A : Around) (outer : List Env) (s : Shared) (H : Hp) (E : XK) (hr : Room k (A.deeper (envOfC "longer" (defScope s_longer) s.heap.objs.size f cdv))) :
    PSs (cxOf CX0 P w K mg base n_longer "longer" (defScope s_longer) f cdv A outer s H E).nox (defBody s_longer) (r_longer K) := 
  (pss_cons (ps_asg (pv 0) (pg_tup rfl (pgs_cons (pg_name (i := 4) sc_longer.nd rfl (Or.inl rfl)) (pgs_cons (pg_name (i := 5) sc_longer.nd rfl (Or.inl rfl)) (pgs_cons (pg_name (i := 6) sc_longer.nd rfl (Or.inl rfl)) (pgs_cons (pg_name (i := 7) sc_longer.nd rfl (Or.inl rfl)) pgs_nil))))))
      (pss_cons (ps_if (PW.pt (pw_and (pt_truth (pv 7) (by intro _; rfl)) (pw_and1 (pt_cmpR (op_neD hr.units) (pe_ix ix_seq (pv 7) (pe_un un_neg pe_int) (fun _ _ => rfl)) (pv 1) (nomark _))))) (pss_one (ps_aug (i := 4) sc_longer.nd rfl (Or.inl rfl) pe_int ip_add)) pss_nil)
      (pss_cons (ps_if (pt_cmpR op_isNotU (pv 1) pe_non (nomark _)) (pss_cons (ps_aug (i := 6) sc_longer.nd rfl (Or.inl rfl) (pe_ix ix_seq (pv 3) (pv 1) (fun _ _ => rfl)) ip_add)
      (pss_one (ps_if (PW.pt (pw_and (pt_cmpR op_isNotU (pv 2) pe_non (nomark _)) (pw_and1 (pt_cmpR (op_neD hr.units) (pv 2) (pv 1) (nomark _))))) (pss_one (ps_aug (i := 5) sc_longer.nd rfl (Or.inl rfl) pe_int ip_add)) pss_nil))) pss_nil)
      (pss_one (ps_ret (pe_tup (pa_cons (pv 4) (pa_cons (pv 5) (pa_cons (pv 6) (pa_cons (pe_op op_addU (pv 7) (pe_lst (pa_cons (pv 1) pa_nil))) pa_nil))))))))))
theorem d_least_longer (hj : j ≤ k) (T : Bi mg) (C_longer : Cal P w K mg base CX0 "longer" j ["ahead", "face", "face_had", "ranks"] sp_longer) (f : Addr) (cdv : Value) (A : Around) (outer : List Env) (s : Shared) (H : Hp) (E : XK) (hr : Room k (A.deeper (envOfC "least_longer" (defScope s_least_longer) s.heap.objs.size f cdv))) :
    PSs (cxOf CX0 P w K mg base n_least_longer "least_longer" (defScope s_least_longer) f cdv A outer s H E).nox (defBody s_least_longer) (r_least_longer K) := 
  have h_longer : Room j _ := hr.mono hj
  (pss_one (ps_ret (pe_callB (cr_minU rfl hr.units) (by rfl) T.min (by decide +kernel) (pa_cons (pe_lc (own := [("ahead", 4)]) (g := (gName 4)) (tt := tYes) rfl sc_least_longer.nd (pi_list (pv 0)) (blkOk_by (own := [("ahead", 4)]) (N := n_least_longer) (sc := defScope s_least_longer) (by decide +kernel)) (fun _ _ _ _ _ => (pg_name (i := 4) sc_least_longer.nd rfl (Or.inl rfl))) (fun _ _ _ _ _ => pts_nil) (fun _ _ _ _ _ => (pe_cal C_longer h_longer (pa_cons (pv 4) (pa_cons (pv 1) (pa_cons (pv 2) (pa_cons (pv 3) pa_nil))))))) pa_nil))))
theorem d_least_row (hj : j ≤ k) (T : Bi mg) (C_tellable : Cal P w K mg base CX0 "tellable" j ["faces"] sp_tellable) (C_least_longer : Cal P w K mg base CX0 "least_longer" j ["least", "face", "face_had", "ranks"] sp_least_longer) (f : Addr) (cdv : Value) (A : Around) (outer : List Env) (s : Shared) (H : Hp) (E : XK) (hr : Room k (A.deeper (envOfC "least_row" (defScope s_least_row) s.heap.objs.size f cdv))) :
    PSs (cxOf CX0 P w K mg base n_least_row "least_row" (defScope s_least_row) f cdv A outer s H E).nox (defBody s_least_row) (r_least_row K) := 
  have h_tellable : Room j _ := hr.mono hj
  have h_least_longer : Room j _ := hr.mono hj
  (pss_cons (ps_set (i := 3) sc_least_row.nd rfl (Or.inr rfl) (pe_lst (pa_cons (pe_tup (pa_cons pe_int (pa_cons pe_int (pa_cons pe_int (pa_cons (pe_lst pa_nil) pa_nil))))) pa_nil)))
      (pss_cons (ps_for PassesOwn.never rfl (pi_zip (by rfl) T.zip (pa_cons (pv 0) (pa_cons (pv 2) pa_nil))) (pg_tup rfl (pgs_cons (pg_name (i := 4) sc_least_row.nd rfl (Or.inl rfl)) (pgs_cons (pg_name (i := 5) sc_least_row.nd rfl (Or.inr rfl)) pgs_nil))) (pss_one (ps_set (i := 3) sc_least_row.nd rfl (Or.inr rfl) (pe_lc (own := [("face", 6)]) (g := (gName 6)) (tt := tYes) rfl sc_least_row.nd (pi_list (pe_cal C_tellable h_tellable (pa_cons (pv 4) pa_nil))) (blkOk_by (own := [("face", 6)]) (N := n_least_row) (sc := defScope s_least_row) (by decide +kernel)) (fun _ _ _ _ _ => (pg_name (i := 6) sc_least_row.nd rfl (Or.inl rfl))) (fun _ _ _ _ _ => pts_nil) (fun _ _ _ _ _ => (pe_cal C_least_longer h_least_longer (pa_cons (pv 3) (pa_cons (pv 6) (pa_cons (pv 5) (pa_cons (pv 1) pa_nil))))))))))
      (pss_one (ps_ret (pe_ix ix_seq (pe_callB (cr_minU rfl hr.units) (by rfl) T.min (by decide +kernel) (pa_cons (pv 3) pa_nil)) pe_int (fun _ _ => rfl))))))
theorem d_shown (hj : j ≤ k) (T : Bi mg) {cC fF : Addr} {fdF : FuncData} (cl : L2.Cls K cC) (mF : Meth K cC "faces" fF) (GF : FnOk P w K mg base CX0 1 fF fdF ["self"] (sp_faces cC)) (bF : Binds K fdF ["self"] []) (hk : 1 ≤ k) (C_choices : Cal P w K mg base CX0 "choices" j ["case", "text"] (sp_choices cC TT)) (C_least_row : Cal P w K mg base CX0 "least_row" j ["choices", "ranks", "had"] sp_least_row) (f : Addr) (cdv : Value) (A : Around) (outer : List Env) (s : Shared) (H : Hp) (E : XK) (hr : Room k (A.deeper (envOfC "shown" (defScope s_shown) s.heap.objs.size f cdv))) :
    PSs (cxOf CX0 P w K mg base n_shown "shown" (defScope s_shown) f cdv A outer s H E).nox (defBody s_shown) (r_shown K cC TT) := 
  have h_choices : Room j _ := hr.mono hj
  have h_least_row : Room j _ := hr.mono hj
  (pss_cons (ps_set (i := 2) sc_shown.nd rfl (Or.inl rfl) (pe_cal C_choices h_choices (pa_cons (pv 0) (pa_cons (pv 1) pa_nil))))
      (pss_cons (ps_setLc (i := 3) (own := [("_", 4), ("rank", 5)]) (g := (gTup K 3 (gCons (gName 4) (gCons (gName 5) (gCons (gName 4) gNil))))) (tt := tYes) rfl sc_shown.nd rfl rfl (sw_true rfl rfl rfl (by decide +kernel)) (pi_list (pe_meth0 (pv 0) cl mF GF (hr.mono hk) bF .nil pass0)) (blkOk_by (own := [("_", 4), ("rank", 5)]) (N := n_shown) (sc := defScope s_shown) (by decide +kernel)) (fun _ _ _ _ _ => (pg_tup rfl (pgs_cons (pg_name (i := 4) sc_shown.nd rfl (Or.inl rfl)) (pgs_cons (pg_name (i := 5) sc_shown.nd rfl (Or.inl rfl)) (pgs_cons (pg_name (i := 4) sc_shown.nd rfl (Or.inl rfl)) pgs_nil))))) (fun _ _ _ _ _ => pts_nil) (fun _ _ _ _ _ => (pv 5)))
      (pss_one (ps_ret (pe_cal C_least_row h_least_row (pa_cons (pv 2) (pa_cons (pv 3) (pa_cons (pe_op op_mulU (pe_lst (pa_cons pe_non pa_nil)) (pe_callB call_lenU (by rfl) T.len PySem.boot_len (pa_cons (pv 2) pa_nil))) pa_nil))))))))
theorem d_changes (T : Bi mg)  (f : Addr) (cdv : Value) (A : Around) (outer : List Env) (s : Shared) (H : Hp) (E : XK) (hr : Room k (A.deeper (envOfC "changes" (defScope s_changes) s.heap.objs.size f cdv))) :
    PSs (cxOf CX0 P w K mg base n_changes "changes" (defScope s_changes) f cdv A outer s H E).nox (defBody s_changes) (r_changes K) := 
  (pss_one (ps_ret (pe_callB call_lenU (by rfl) T.len PySem.boot_len (pa_cons (pe_lc (own := [("ahead", 1), ("face", 2)]) (g := (gTup K 2 (gCons (gName 1) (gCons (gName 2) gNil)))) (tt := (tTest (tOp (rNeD K) (tVar 1) (tVar 2)))) rfl sc_changes.nd (pi_zip (by rfl) T.zip (pa_cons (pv 0) (pa_cons (pe_slice sl_U (pv 0) (po_some pe_int) po_none) pa_nil))) (blkOk_by (own := [("ahead", 1), ("face", 2)]) (N := n_changes) (sc := defScope s_changes) (by decide +kernel)) (fun _ _ _ _ _ => (pg_tup rfl (pgs_cons (pg_name (i := 1) sc_changes.nd rfl (Or.inl rfl)) (pgs_cons (pg_name (i := 2) sc_changes.nd rfl (Or.inl rfl)) pgs_nil)))) (fun _ _ _ _ _ => (pts_one (pt_cmpR (op_neD hr.units) (pv 1) (pv 2) (nomark _)))) (fun _ _ _ _ _ => (pv 2))) pa_nil))))
theorem d__law_taken (T : Bi mg)  (f : Addr) (cdv : Value) (A : Around) (outer : List Env) (s : Shared) (H : Hp) (E : XK) (hr : Room k (A.deeper (envOfC "_law_taken" (defScope s__law_taken) s.heap.objs.size f cdv))) :
    PSs (cxOf CX0 P w K mg base n__law_taken "_law_taken" (defScope s__law_taken) f cdv A outer s H E).nox (defBody s__law_taken) (r__law_taken K) := 
  (pss_cons (ps_if (pt_cmpR op_gt (pe_ix ix_seq (pv 0) pe_int (fun _ _ => rfl)) pe_int (nomark _)) (pss_cons (ps_set (i := 2) sc__law_taken.nd rfl (Or.inl rfl) (pe_op op_modN (pe_ix ix_seq (pv 0) pe_int (fun _ _ => rfl)) (pv 1)))
      (pss_cons (ps_asg (pe_op op_fdivN (pe_ix ix_seq (pv 0) pe_int (fun _ _ => rfl)) (pv 1)) (pg_sub (pv 0) pe_int set_list))
      (pss_one (ps_ret (pv 2))))) pss_nil)
      (pss_cons (ps_asg (pe_op op_addU (pe_ix ix_seq (pv 0) pe_int (fun _ _ => rfl)) pe_int) (pg_sub (pv 0) pe_int set_list))
      (pss_cons (ps_if (pt_cmpR op_gt (pe_ix ix_seq (pv 0) pe_int (fun _ _ => rfl)) (pe_callB call_lenU (by rfl) T.len PySem.boot_len (pa_cons (pe_ix ix_seq (pv 0) pe_int (fun _ _ => rfl)) pa_nil)) (nomark _)) (pss_cons (ps_asg (pe_op op_modN (pe_op op_addU (pe_op op_mulU (pe_ix ix_seq (pv 0) pe_int (fun _ _ => rfl)) pe_int) pe_int) pe_int) (pg_sub (pv 0) pe_int set_list))
      (pss_one (ps_ret (pe_op op_modN (pe_op op_fdivN (pe_ix ix_seq (pv 0) pe_int (fun _ _ => rfl)) pe_int) (pv 1))))) pss_nil)
      (pss_cons (ps_set (i := 3) sc__law_taken.nd rfl (Or.inl rfl) (pe_ix ix_seq (pe_ix ix_seq (pv 0) pe_int (fun _ _ => rfl)) (pe_op op_sub (pe_ix ix_seq (pv 0) pe_int (fun _ _ => rfl)) pe_int) (fun _ _ => rfl)))
      (pss_cons (ps_asg (pe_op op_modN (pe_op op_addU (pe_op op_addU (pe_op op_mulU (pe_ix ix_seq (pv 0) pe_int (fun _ _ => rfl)) pe_int) (pv 3)) pe_int) pe_int) (pg_sub (pv 0) pe_int set_list))
      (pss_cons (ps_asg (pe_ifExp (pt_cmpR op_ge (pv 3) (pe_op op_pow pe_int pe_int) (nomark _)) (pe_op op_fdivN (pv 3) (pv 1)) pe_int) (pg_sub (pv 0) pe_int set_list))
      (pss_one (ps_ret (pe_op op_modN (pv 3) (pv 1))))))))))
theorem d__law_pool (hj : j ≤ k) (T : Bi mg) (C__law_taken : Cal P w K mg base CX0 "_law_taken" j ["_law_row", "_law_many"] (sp__law_taken K)) (f : Addr) (cdv : Value) (A : Around) (outer : List Env) (s : Shared) (H : Hp) (E : XK) (hr : Room k (A.deeper (envOfC "_law_pool" (defScope s__law_pool) s.heap.objs.size f cdv))) :
    PSs (cxOf CX0 P w K mg base n__law_pool "_law_pool" (defScope s__law_pool) f cdv A outer s H E).nox (defBody s__law_pool) (r__law_pool K) := 
  have h__law_taken : Room j _ := hr.mono hj
  (pss_cons (ps_set (i := 1) sc__law_pool.nd rfl (Or.inr rfl) (pe_cal C__law_taken h__law_taken (pa_cons (pv 0) (pa_cons pe_int pa_nil))))
      (pss_cons (ps_setLc (i := 2) (own := [("_law_k", 4)]) (g := (gName 4)) (tt := tYes) rfl sc__law_pool.nd rfl rfl (sw_true rfl rfl rfl (by decide +kernel)) (pi_range1 (by rfl) T.range (pa_cons (pe_op op_addU pe_int (pe_ix ix_seq (pe_lst (pa_cons (pe_cal C__law_taken h__law_taken (pa_cons (pv 0) (pa_cons pe_int pa_nil))) (pa_cons (pe_cal C__law_taken h__law_taken (pa_cons (pv 0) (pa_cons pe_int pa_nil))) pa_nil))) (pe_op op_fdivN (pe_cal C__law_taken h__law_taken (pa_cons (pv 0) (pa_cons pe_int pa_nil))) pe_int) (fun _ _ => rfl))) pa_nil)) (blkOk_by (own := [("_law_k", 4)]) (N := n__law_pool) (sc := defScope s__law_pool) (by decide +kernel)) (fun _ _ _ _ _ => (pg_name (i := 4) sc__law_pool.nd rfl (Or.inl rfl))) (fun _ _ _ _ _ => pts_nil) (fun _ _ _ _ _ => (pe_op op_addU (pv 1) (pv 4))))
      (pss_cons (ps_setLc (i := 3) (own := [("_law_k", 4)]) (g := (gName 4)) (tt := tYes) rfl sc__law_pool.nd rfl rfl (sw_true rfl rfl rfl (by decide +kernel)) (pi_range1 (by rfl) T.range (pa_cons pe_int pa_nil)) (blkOk_by (own := [("_law_k", 4)]) (N := n__law_pool) (sc := defScope s__law_pool) (by decide +kernel)) (fun _ _ _ _ _ => (pg_name (i := 4) sc__law_pool.nd rfl (Or.inl rfl))) (fun _ _ _ _ _ => pts_nil) (fun _ _ _ _ _ => (pe_op op_addU (pe_op op_addU pe_int (pe_cal C__law_taken h__law_taken (pa_cons (pv 0) (pa_cons pe_int pa_nil)))) (pv 4))))
      (pss_cons (ps_if (pt_cmpR (op_eqD hr.units) (pe_cal C__law_taken h__law_taken (pa_cons (pv 0) (pa_cons pe_int pa_nil))) pe_int (nomark _)) (pss_cons (ps_set (i := 2) sc__law_pool.nd rfl (Or.inl rfl) (pe_op op_addU (pv 2) (pe_lst (pa_cons pe_int (pa_cons pe_int pa_nil)))))
      (pss_one (ps_set (i := 3) sc__law_pool.nd rfl (Or.inl rfl) (pe_op op_addU (pv 3) (pe_lst (pa_cons pe_int (pa_cons pe_int pa_nil))))))) pss_nil)
      (pss_one (ps_ret (pe_tup (pa_cons (pe_sortedSet (by rfl) (by rfl) (by rfl) T.sorted T.set (pv 2)) (pa_cons (pe_sortedSet (by rfl) (by rfl) (by rfl) T.sorted T.set (pv 3)) pa_nil)))))))))
theorem d__law_names (hj : j ≤ k) (T : Bi mg) (C__law_taken : Cal P w K mg base CX0 "_law_taken" j ["_law_row", "_law_many"] (sp__law_taken K)) (f : Addr) (cdv : Value) (A : Around) (outer : List Env) (s : Shared) (H : Hp) (E : XK) (hr : Room k (A.deeper (envOfC "_law_names" (defScope s__law_names) s.heap.objs.size f cdv))) :
    PSs (cxOf CX0 P w K mg base n__law_names "_law_names" (defScope s__law_names) f cdv A outer s H E).nox (defBody s__law_names) (r__law_names K) := 
  have h__law_taken : Room j _ := hr.mono hj
  (pss_cons (ps_set (i := 2) sc__law_names.nd rfl (Or.inr rfl) (pe_cal C__law_taken h__law_taken (pa_cons (pv 0) (pa_cons pe_int pa_nil))))
      (pss_cons (ps_set (i := 3) sc__law_names.nd rfl (Or.inr rfl) (pe_joinU pe_str (pe_lc (own := [("_law_k", 5)]) (g := (gName 5)) (tt := tYes) rfl sc__law_names.nd (pi_range1 (by rfl) T.range (pa_cons pe_int pa_nil)) (blkOk_by (own := [("_law_k", 5)]) (N := n__law_names) (sc := defScope s__law_names) (by decide +kernel)) (fun _ _ _ _ _ => (pg_name (i := 5) sc__law_names.nd rfl (Or.inl rfl))) (fun _ _ _ _ _ => pts_nil) (fun _ _ _ _ _ => (pe_ix ix_seq pe_str (pe_op op_modN (pe_op op_addU (pv 2) (pe_op op_mulU pe_int (pv 5))) pe_int) (fun _ _ => rfl))))))
      (pss_cons (ps_set (i := 4) sc__law_names.nd rfl (Or.inr rfl) (pe_cal C__law_taken h__law_taken (pa_cons (pv 0) (pa_cons pe_int pa_nil))))
      (pss_cons (ps_if (pt_cmpR (op_eqD hr.units) (pe_cal C__law_taken h__law_taken (pa_cons (pv 0) (pa_cons pe_int pa_nil))) pe_int (nomark _)) (pss_one (ps_ret (pe_lc (own := [("_law_k", 5)]) (g := (gName 5)) (tt := tYes) rfl sc__law_names.nd (pi_range1 (by rfl) T.range (pa_cons (pv 1) pa_nil)) (blkOk_by (own := [("_law_k", 5)]) (N := n__law_names) (sc := defScope s__law_names) (by decide +kernel)) (fun _ _ _ _ _ => (pg_name (i := 5) sc__law_names.nd rfl (Or.inl rfl))) (fun _ _ _ _ _ => pts_nil) (fun _ _ _ _ _ => (pe_slice sl_U (pv 3) po_none (po_some (pe_op op_addU (pv 5) pe_int))))))) pss_nil)
      (pss_one (ps_ret (pe_lc (own := [("_law_k", 5)]) (g := (gName 5)) (tt := tYes) rfl sc__law_names.nd (pi_range1 (by rfl) T.range (pa_cons (pv 1) pa_nil)) (blkOk_by (own := [("_law_k", 5)]) (N := n__law_names) (sc := defScope s__law_names) (by decide +kernel)) (fun _ _ _ _ _ => (pg_name (i := 5) sc__law_names.nd rfl (Or.inl rfl))) (fun _ _ _ _ _ => pts_nil) (fun _ _ _ _ _ => (pe_op op_addU (pe_slice sl_U (pv 3) po_none (po_some (pv 4))) (pe_ix ix_seq pe_str (pe_op op_modN (pe_op op_addU (pe_op op_addU (pv 2) pe_int) (pe_op op_mulU pe_int (pv 5))) pe_int) (fun _ _ => rfl)))))))))))
theorem d__law_faces (hj : j ≤ k) (T : Bi mg) (C__law_names : Cal P w K mg base CX0 "_law_names" j ["_law_row", "_law_many"] (sp__law_names K)) (C__law_taken : Cal P w K mg base CX0 "_law_taken" j ["_law_row", "_law_many"] (sp__law_taken K)) (f : Addr) (cdv : Value) (A : Around) (outer : List Env) (s : Shared) (H : Hp) (E : XK) (hr : Room k (A.deeper (envOfC "_law_faces" (defScope s__law_faces) s.heap.objs.size f cdv))) :
    PSs (cxOf CX0 P w K mg base n__law_faces "_law_faces" (defScope s__law_faces) f cdv A outer s H E).nox (defBody s__law_faces) (r__law_faces K) := 
  have h__law_names : Room j _ := hr.mono hj
  have h__law_taken : Room j _ := hr.mono hj
  (pss_cons (ps_set (i := 3) sc__law_faces.nd rfl (Or.inl rfl) (pe_cal C__law_names h__law_names (pa_cons (pv 0) (pa_cons (pe_ix ix_seq (pe_lst (pa_cons (pe_cal C__law_taken h__law_taken (pa_cons (pv 0) (pa_cons (pe_op op_addU (pv 2) pe_int) pa_nil))) (pa_cons (pe_op op_addU pe_int (pe_cal C__law_taken h__law_taken (pa_cons (pv 0) (pa_cons (pe_callB (call_min2 rfl) (by rfl) T.min (by decide +kernel) (pa_cons (pv 2) (pa_cons pe_int pa_nil))) pa_nil)))) pa_nil))) (pe_cal C__law_taken h__law_taken (pa_cons (pv 0) (pa_cons pe_int pa_nil))) (fun _ _ => rfl)) pa_nil))))
      (pss_cons (ps_set (i := 4) sc__law_faces.nd rfl (Or.inl rfl) (pe_lst pa_nil))
      (pss_cons (ps_for PassesOwn.never rfl (pi_list (pv 3)) (pg_name (i := 5) sc__law_faces.nd rfl (Or.inl rfl)) (pss_cons (ps_set (i := 6) sc__law_faces.nd rfl (Or.inr rfl) (pe_op op_addU pe_int (pe_cal C__law_taken h__law_taken (pa_cons (pv 0) (pa_cons pe_int pa_nil)))))
      (pss_cons (ps_setLc (i := 7) (own := [("_law_sign", 9)]) (g := (gName 9)) (tt := (tTest (tOp (rI0 fun i j => .bl (decide (j < i))) (tCall (sp__law_taken K) [] E0 (tCons (tVar 0) (tCons (tVar 6) tNil))) (tC (.int 0))))) rfl sc__law_faces.nd rfl rfl (sw_true rfl rfl rfl (by decide +kernel)) (pi_list (pe_ix ix_seq (pv 1) pe_int (fun _ _ => rfl))) (blkOk_by (own := [("_law_sign", 9)]) (N := n__law_faces) (sc := defScope s__law_faces) (by decide +kernel)) (fun _ _ _ _ _ => (pg_name (i := 9) sc__law_faces.nd rfl (Or.inl rfl))) (fun _ _ _ _ _ => (pts_one (pt_cmpR op_gt (pe_cal C__law_taken h__law_taken (pa_cons (pv 0) (pa_cons (pv 6) pa_nil))) pe_int (nomark _)))) (fun _ _ _ _ _ => (pv 9)))
      (pss_cons (ps_setLc (i := 8) (own := [("_law_sign", 9)]) (g := (gName 9)) (tt := (tTest (tOp (rI0 fun i j => .bl (decide (j < i))) (tCall (sp__law_taken K) [] E0 (tCons (tVar 0) (tCons (tC (.int 3)) tNil))) (tC (.int 0))))) rfl sc__law_faces.nd rfl rfl (sw_true rfl rfl rfl (by decide +kernel)) (pi_list (pe_ix ix_seq (pv 1) pe_int (fun _ _ => rfl))) (blkOk_by (own := [("_law_sign", 9)]) (N := n__law_faces) (sc := defScope s__law_faces) (by decide +kernel)) (fun _ _ _ _ _ => (pg_name (i := 9) sc__law_faces.nd rfl (Or.inl rfl))) (fun _ _ _ _ _ => (pts_one (pt_cmpR op_gt (pe_cal C__law_taken h__law_taken (pa_cons (pv 0) (pa_cons pe_int pa_nil))) pe_int (nomark _)))) (fun _ _ _ _ _ => (pv 9)))
      (pss_one (ps_expr (pe_bm PySem.F.plainAttrs_list PySem.F.slot_list_append PySem.F.type_list_append mt_append (pv 4) (pa_cons (pe_tup (pa_cons (pv 5) (pa_cons (pe_ix ix_seq (pe_lst (pa_cons (pe_cal C__law_taken h__law_taken (pa_cons (pv 0) (pa_cons pe_int pa_nil))) (pa_cons (pe_cal C__law_taken h__law_taken (pa_cons (pv 0) (pa_cons pe_int pa_nil))) pa_nil))) (pe_cal C__law_taken h__law_taken (pa_cons (pv 0) (pa_cons pe_int pa_nil))) (fun _ _ => rfl)) (pa_cons (pe_callTy call_tupU (by rfl) T.tuple (by decide +kernel) (pa_cons (pe_op op_addU (pv 7) (pv 8)) pa_nil)) pa_nil)))) pa_nil))))))))
      (pss_one (ps_ret (pv 4))))))
theorem d__law_signs (hj : j ≤ k) (T : Bi mg) (C__law_taken : Cal P w K mg base CX0 "_law_taken" j ["_law_row", "_law_many"] (sp__law_taken K)) (f : Addr) (cdv : Value) (A : Around) (outer : List Env) (s : Shared) (H : Hp) (E : XK) (hr : Room k (A.deeper (envOfC "_law_signs" (defScope s__law_signs) s.heap.objs.size f cdv))) :
    PSs (cxOf CX0 P w K mg base n__law_signs "_law_signs" (defScope s__law_signs) f cdv A outer s H E).nox (defBody s__law_signs) (r__law_signs_a K) := 
  have h__law_taken : Room j _ := hr.mono hj
  (pss_cons (ps_set (i := 3) sc__law_signs.nd rfl (Or.inl rfl) (pe_lst pa_nil))
      (pss_cons (ps_for PassesOwn.never rfl (pi_range1 (by rfl) T.range (pa_cons (pe_cal C__law_taken h__law_taken (pa_cons (pv 0) (pa_cons (pe_op op_addU (pv 2) pe_int) pa_nil))) pa_nil)) (pg_name (i := 4) sc__law_signs.nd rfl (Or.inl rfl)) (pss_cons (ps_set (i := 5) sc__law_signs.nd rfl (Or.inl rfl) (pe_cal C__law_taken h__law_taken (pa_cons (pv 0) (pa_cons pe_int pa_nil))))
      (pss_cons (ps_set (i := 6) sc__law_signs.nd rfl (Or.inl rfl) (pe_ix ix_seq (pv 1) (pe_callTy call_intU (by rfl) T.int (by decide +kernel) (pa_cons (pe_cmpR (op_eqD hr.units) (pe_op op_modN (pv 5) pe_int) pe_int (nomark _)) pa_nil)) (fun _ _ => rfl)))
      (pss_one (ps_expr (pe_bm PySem.F.plainAttrs_list PySem.F.slot_list_append PySem.F.type_list_append mt_append (pv 3) (pa_cons (pe_ix ix_seq (pe_lst (pa_cons (pe_ix ix_seq (pv 6) (pe_cal C__law_taken h__law_taken (pa_cons (pv 0) (pa_cons (pe_callB call_lenU (by rfl) T.len PySem.boot_len (pa_cons (pv 6) pa_nil)) pa_nil))) (fun _ _ => rfl)) (pa_cons (pe_cal C__law_taken h__law_taken (pa_cons (pv 0) (pa_cons pe_int pa_nil))) pa_nil))) (pe_callTy call_intU (by rfl) T.int (by decide +kernel) (pa_cons (pe_cmpR (op_eqD hr.units) (pv 5) pe_int (nomark _)) pa_nil)) (fun _ _ => rfl)) pa_nil)))))))
      (pss_one (ps_ret (pv 3)))))
theorem d__law_clusters (T : Bi mg)  (f : Addr) (cdv : Value) (A : Around) (outer : List Env) (s : Shared) (H : Hp) (E : XK) (hr : Room k (A.deeper (envOfC "_law_clusters" (defScope s__law_clusters) s.heap.objs.size f cdv))) :
    PSs (cxOf CX0 P w K mg base n__law_clusters "_law_clusters" (defScope s__law_clusters) f cdv A outer s H E).nox (defBody s__law_clusters) (r__law_clusters K) := 
  (pss_cons (ps_set (i := 1) sc__law_clusters.nd rfl (Or.inr rfl) (pe_lc (own := [("_law_k", 3)]) (g := (gName 3)) (tt := (tOr (tTest (tOp (rEqD K) (tVar 3) (tC (.int 0)))) (tTest (tOp (rI0 fun i j => .bl (decide (i < j))) (tOp (rIx K) (tVar 0) (tVar 3)) (tC (.int 800)))))) rfl sc__law_clusters.nd (pi_range1 (by rfl) T.range (pa_cons (pe_callB call_lenU (by rfl) T.len PySem.boot_len (pa_cons (pv 0) pa_nil)) pa_nil)) (blkOk_by (own := [("_law_k", 3)]) (N := n__law_clusters) (sc := defScope s__law_clusters) (by decide +kernel)) (fun _ _ _ _ _ => (pg_name (i := 3) sc__law_clusters.nd rfl (Or.inl rfl))) (fun _ _ _ _ _ => (pts_one (PW.pt (pw_or (pt_cmpR (op_eqD hr.units) (pv 3) pe_int (nomark _)) (pw_or1 (pt_cmpR op_lt (pe_ix ix_seq (pv 0) (pv 3) (fun _ _ => rfl)) pe_int (nomark _))))))) (fun _ _ _ _ _ => (pv 3))))
      (pss_cons (ps_set (i := 2) sc__law_clusters.nd rfl (Or.inr rfl) (pe_op op_addU (pe_slice sl_U (pv 1) (po_some pe_int) po_none) (pe_lst (pa_cons (pe_callB call_lenU (by rfl) T.len PySem.boot_len (pa_cons (pv 0) pa_nil)) pa_nil))))
      (pss_one (ps_ret (pe_lc (own := [("_law_k", 3)]) (g := (gName 3)) (tt := tYes) rfl sc__law_clusters.nd (pi_range1 (by rfl) T.range (pa_cons (pe_callB call_lenU (by rfl) T.len PySem.boot_len (pa_cons (pv 1) pa_nil)) pa_nil)) (blkOk_by (own := [("_law_k", 3)]) (N := n__law_clusters) (sc := defScope s__law_clusters) (by decide +kernel)) (fun _ _ _ _ _ => (pg_name (i := 3) sc__law_clusters.nd rfl (Or.inl rfl))) (fun _ _ _ _ _ => pts_nil) (fun _ _ _ _ _ => (pe_tup (pa_cons (pe_ix ix_seq (pv 1) (pv 3) (fun _ _ => rfl)) (pa_cons (pe_ix ix_seq (pv 2) (pv 3) (fun _ _ => rfl)) pa_nil)))))))))
theorem d__law_having (T : Bi mg)  (f : Addr) (cdv : Value) (A : Around) (outer : List Env) (s : Shared) (H : Hp) (E : XK) (hr : Room k (A.deeper (envOfC "_law_having" (defScope s__law_having) s.heap.objs.size f cdv))) :
    PSs (cxOf CX0 P w K mg base n__law_having "_law_having" (defScope s__law_having) f cdv A outer s H E).nox (defBody s__law_having) (r__law_having K) := 
  (pss_one (ps_ret (pe_lc (own := [("_law_k", 2)]) (g := (gName 2)) (tt := (tTest (tOp (rEqD K) (tLc (iList K (tVar 1)) (gName 3) (tTest (tOp (rInU K true) (tVar 3) (tOp (rIx K) (tOp (rIx K) (tVar 0) (tVar 2)) (tC (.int 2))))) (tVar 3) [3]) (tLst tNil)))) rfl sc__law_having.nd (pi_range1 (by rfl) T.range (pa_cons (pe_callB call_lenU (by rfl) T.len PySem.boot_len (pa_cons (pv 0) pa_nil)) pa_nil)) (blkOk_by (own := [("_law_k", 2)]) (N := n__law_having) (sc := defScope s__law_having) (by decide +kernel)) (fun _ _ _ _ _ => (pg_name (i := 2) sc__law_having.nd rfl (Or.inr rfl))) (fun _ _ _ _ _ => (pts_one (pt_cmpR (op_eqD hr.units) (pe_lc (own := [("_law_sign", 3)]) (g := (gName 3)) (tt := (tTest (tOp (rInU K true) (tVar 3) (tOp (rIx K) (tOp (rIx K) (tVar 0) (tVar 2)) (tC (.int 2)))))) rfl sc__law_having.nd (pi_list (pv 1)) (blkOk_by (own := [("_law_sign", 3)]) (by rfl)) (fun _ _ _ _ _ => (pg_name (i := 3) sc__law_having.nd rfl (Or.inl rfl))) (fun _ _ _ _ _ => (pts_one (pt_cmpR op_notInU (pv 3) (pe_ix ix_seq (pe_ix ix_seq (pv 0) (pv 2) (fun _ _ => rfl)) pe_int (fun _ _ => rfl)) (by rfl)))) (fun _ _ _ _ _ => (pv 3))) (pe_lst pa_nil) (nomark _)))) (fun _ _ _ _ _ => (pv 2)))))
theorem d_law {cC fI : Addr} {fdI : FuncData} (hj : j ≤ k) (T : Bi mg) (C__law_pool : Cal P w K mg base CX0 "_law_pool" j ["_law_row"] (sp__law_pool K)) (C__law_names : Cal P w K mg base CX0 "_law_names" j ["_law_row", "_law_many"] (sp__law_names K)) (C__law_faces : Cal P w K mg base CX0 "_law_faces" j ["_law_row", "_law_pool_here", "_law_most"] (sp__law_facesM K)) (C__law_signs : Cal P w K mg base CX0 "_law_signs" j ["_law_row", "_law_pool_here", "_law_most"] (sp__law_signs K)) (C__law_clusters : Cal P w K mg base CX0 "_law_clusters" j ["_law_text"] (sp__law_clusters K)) (C__law_having : Cal P w K mg base CX0 "_law_having" j ["_law_faces_here", "_law_signs_here"] (sp__law_having K)) (C_changes : Cal P w K mg base CX0 "changes" j ["row"] sp_changes) (C_shown : Cal P w K mg base CX0 "shown" j ["case", "text"] (sp_shown cC TT)) (C_missing : Cal P w K mg base CX0 "missing" j ["case", "text"] (sp_missing cC TT)) (C__law_taken : Cal P w K mg base CX0 "_law_taken" j ["_law_row", "_law_many"] (sp__law_taken K)) (MK : Mk K cC fI) (GI : FnOk P w K mg base CX0 6 fI fdI ["self", "faces"] (sp_init cC TT)) (bI : Binds K fdI ["self", "faces"] []) (mgC : mg "Case" = some (.ref cC)) (hk : 7 ≤ k) (f : Addr) (cdv : Value) (A : Around) (outer : List Env) (s : Shared) (H : Hp) (E : XK) (hr : Room k (A.deeper (envOfC "law" (defScope s_law) s.heap.objs.size f cdv))) :
    PSs (cxOf CX0 P w K mg base n_law "law" (defScope s_law) f cdv A outer s H E).nox (defBody s_law) (r12_law K cC TT) := 
  have h__law_pool : Room j _ := hr.mono hj
  have h__law_names : Room j _ := hr.mono hj
  have h__law_faces : Room j _ := hr.mono hj
  have h__law_signs : Room j _ := hr.mono hj
  have h__law_clusters : Room j _ := hr.mono hj
  have h__law_having : Room j _ := hr.mono hj
  have h_changes : Room j _ := hr.mono hj
  have h_shown : Room j _ := hr.mono hj
  have h_missing : Room j _ := hr.mono hj
  have h__law_taken : Room j _ := hr.mono hj
  (pss_cons (ps_set (i := 1) sc_law.nd rfl (Or.inl rfl) (pe_lst (pa_cons (pv 0) (pa_cons pe_int (pa_cons pe_int (pa_cons pe_int pa_nil))))))
      (pss_cons (ps_for PassesOwn.never rfl (pi_range1 (by rfl) T.range (pa_cons pe_int pa_nil)) (pg_name (i := 2) sc_law.nd rfl (Or.inl rfl)) (pss_cons (ps_set (i := 3) sc_law.nd rfl (Or.inl rfl) (pe_cal C__law_pool h__law_pool (pa_cons (pv 1) pa_nil)))
      (pss_cons (ps_set (i := 4) sc_law.nd rfl (Or.inr rfl) (pe_cal C__law_names h__law_names (pa_cons (pv 1) (pa_cons pe_int pa_nil))))
      (pss_cons (ps_set (i := 5) sc_law.nd rfl (Or.inr rfl) (pe_cal C__law_faces h__law_faces (pa_cons (pv 1) (pa_cons (pv 3) (pa_cons pe_int pa_nil)))))
      (pss_cons (ps_setLc (i := 6) (own := [("_law_k", 17)]) (g := (gName 17)) (tt := tYes) rfl sc_law.nd rfl rfl (sw_true rfl rfl rfl (by decide +kernel)) (pi_range1 (by rfl) T.range (pa_cons (pe_callB call_lenU (by rfl) T.len PySem.boot_len (pa_cons (pv 5) pa_nil)) pa_nil)) (blkOk_by (own := [("_law_k", 17)]) (N := n_law) (sc := defScope s_law) (by decide +kernel)) (fun _ _ _ _ _ => (pg_name (i := 17) sc_law.nd rfl (Or.inl rfl))) (fun _ _ _ _ _ => pts_nil) (fun _ _ _ _ _ => (pe_op op_addU (pe_tup (pa_cons (pe_ix ix_seq (pv 4) (pv 17) (fun _ _ => rfl)) pa_nil)) (pe_slice sl_U (pe_ix ix_seq (pv 5) (pv 17) (fun _ _ => rfl)) (po_some pe_int) po_none))))
      (pss_cons (ps_set (i := 7) sc_law.nd rfl (Or.inl rfl) (pe_cal C__law_signs h__law_signs (pa_cons (pv 1) (pa_cons (pv 3) (pa_cons pe_int pa_nil)))))
      (pss_cons (ps_set (i := 8) sc_law.nd rfl (Or.inr rfl) (pe_lst pa_nil))
      (pss_cons (ps_for PassesOwn.never rfl (pi_list (pe_cal C__law_clusters h__law_clusters (pa_cons (pv 7) pa_nil))) (pg_tup rfl (pgs_cons (pg_name (i := 9) sc_law.nd rfl (Or.inl rfl)) (pgs_cons (pg_name (i := 10) sc_law.nd rfl (Or.inl rfl)) pgs_nil))) (pss_one (ps_if (pt_cmpR (op_neD hr.units) (pe_cal C__law_having h__law_having (pa_cons (pv 6) (pa_cons (pe_slice sl_U (pv 7) (po_some (pv 9)) (po_some (pv 10))) pa_nil))) (pe_lst pa_nil) (nomark _)) (pss_one (ps_set (i := 8) sc_law.nd rfl (Or.inr rfl) (pe_op op_addU (pv 8) (pe_slice sl_U (pv 7) (po_some (pv 9)) (po_some (pv 10)))))) pss_nil)))
      (pss_cons (ps_set (i := 11) sc_law.nd rfl (Or.inl rfl) (pe_make MK GI (hr.mono hk) (by rfl) mgC bI .nil pass0 (pa_cons (pe_callTy call_listU (by rfl) T.list (by decide +kernel) (pa_cons (pv 6) pa_nil)) pa_nil)))
      (pss_cons (ps_set (i := 12) sc_law.nd rfl (Or.inl rfl) (pe_cal C_changes h_changes (pa_cons (pe_cal C_shown h_shown (pa_cons (pv 11) (pa_cons (pv 8) pa_nil))) pa_nil)))
      (pss_cons (ps_if (PW.pt (pw_or (pt_cmpR (op_neD hr.units) (pe_cal C_missing h_missing (pa_cons (pv 11) (pa_cons (pv 8) pa_nil))) (pe_lst pa_nil) (nomark _)) (pw_or1 (pt_cmpR op_inU pe_non (pe_cal C_shown h_shown (pa_cons (pv 11) (pa_cons (pv 8) pa_nil))) (by rfl))))) (pss_one (ps_ret pe_bl)) pss_nil)
      (pss_cons (ps_set (i := 13) sc_law.nd rfl (Or.inl rfl) (pe_ix ix_seq (pe_op op_addU (pe_cal C__law_faces h__law_faces (pa_cons (pv 1) (pa_cons (pv 3) (pa_cons pe_int pa_nil)))) (pe_lst (pa_cons (pe_tup (pa_cons pe_str (pa_cons pe_int (pa_cons (pe_callTy call_tupU (by rfl) T.tuple (by decide +kernel) (pa_cons (pe_op op_addU (pe_ix ix_seq (pv 3) pe_int (fun _ _ => rfl)) (pe_ix ix_seq (pv 3) pe_int (fun _ _ => rfl))) pa_nil)) pa_nil)))) pa_nil))) pe_int (fun _ _ => rfl)))
      (pss_cons (ps_set (i := 14) sc_law.nd rfl (Or.inl rfl) (pe_cal C__law_taken h__law_taken (pa_cons (pv 1) (pa_cons (pe_op op_addU (pe_callB call_lenU (by rfl) T.len PySem.boot_len (pa_cons (pv 6) pa_nil)) pe_int) pa_nil))))
      (pss_cons (ps_set (i := 15) sc_law.nd rfl (Or.inl rfl) (pe_op op_addU (pe_tup (pa_cons (pe_ix ix_seq (pv 4) pe_int (fun _ _ => rfl)) pa_nil)) (pe_slice sl_U (pv 13) (po_some pe_int) po_none)))
      (pss_cons (ps_set (i := 16) sc_law.nd rfl (Or.inl rfl) (pe_op op_addU (pe_op op_addU (pe_slice sl_U (pv 6) po_none (po_some (pv 14))) (pe_lst (pa_cons (pv 15) pa_nil))) (pe_slice sl_U (pv 6) (po_some (pv 14)) po_none)))
      (pss_cons (ps_if (pt_cmpR op_gt (pe_cal C_changes h_changes (pa_cons (pe_cal C_shown h_shown (pa_cons (pe_make MK GI (hr.mono hk) (by rfl) mgC bI .nil pass0 (pa_cons (pv 16) pa_nil)) (pa_cons (pv 8) pa_nil))) pa_nil)) (pv 12) (nomark _)) (pss_one (ps_ret pe_bl)) pss_nil)
      (pss_cons (ps_if (pt_cmpR (op_neD hr.units) (pv 6) (pe_lst pa_nil) (nomark _)) (pss_cons (ps_set (i := 17) sc_law.nd rfl (Or.inl rfl) (pe_cal C__law_taken h__law_taken (pa_cons (pv 1) (pa_cons (pe_callB call_lenU (by rfl) T.len PySem.boot_len (pa_cons (pv 6) pa_nil)) pa_nil))))
      (pss_cons (ps_set (i := 18) sc_law.nd rfl (Or.inl rfl) (pe_callTy call_tupU (by rfl) T.tuple (by decide +kernel) (pa_cons (pe_sortedTup (by rfl) (by rfl) (by rfl) T.sorted T.set (pe_op op_catA (pe_ix ix_seq (pe_ix ix_seq (pv 6) (pv 17) (fun _ _ => rfl)) pe_int (fun _ _ => rfl)) (pe_ix ix_seq (pv 13) pe_int (fun _ _ => rfl)))) pa_nil)))
      (pss_cons (ps_set (i := 16) sc_law.nd rfl (Or.inl rfl) (pe_op op_addU (pe_op op_addU (pe_slice sl_U (pv 6) po_none (po_some (pv 17))) (pe_lst (pa_cons (pe_op op_addU (pe_slice sl_U (pe_ix ix_seq (pv 6) (pv 17) (fun _ _ => rfl)) po_none (po_some pe_int)) (pe_tup (pa_cons (pv 18) pa_nil))) pa_nil))) (pe_slice sl_U (pv 6) (po_some (pe_op op_addU (pv 17) pe_int)) po_none)))
      (pss_one (ps_if (pt_cmpR op_gt (pe_cal C_changes h_changes (pa_cons (pe_cal C_shown h_shown (pa_cons (pe_make MK GI (hr.mono hk) (by rfl) mgC bI .nil pass0 (pa_cons (pv 16) pa_nil)) (pa_cons (pv 8) pa_nil))) pa_nil)) (pv 12) (nomark _)) (pss_one (ps_ret pe_bl)) pss_nil))))) pss_nil)
      (pss_cons (ps_set (i := 19) sc_law.nd rfl (Or.inl rfl) (pe_op op_addU (pe_lc (own := [("_law_j", 20)]) (g := (gName 20)) (tt := (tTest (tOp (rI0 fun i j => .bl (decide (i < j))) (tOp (rIx K) (tVar 8) (tVar 20)) (tC (.int 800))))) rfl sc_law.nd (pi_range1 (by rfl) T.range (pa_cons (pe_callB call_lenU (by rfl) T.len PySem.boot_len (pa_cons (pv 8) pa_nil)) pa_nil)) (blkOk_by (own := [("_law_j", 20)]) (N := n_law) (sc := defScope s_law) (by decide +kernel)) (fun _ _ _ _ _ => (pg_name (i := 20) sc_law.nd rfl (Or.inl rfl))) (fun _ _ _ _ _ => (pts_one (pt_cmpR op_lt (pe_ix ix_seq (pv 8) (pv 20) (fun _ _ => rfl)) pe_int (nomark _)))) (fun _ _ _ _ _ => (pv 20))) (pe_lst (pa_cons (pe_callB call_lenU (by rfl) T.len PySem.boot_len (pa_cons (pv 8) pa_nil)) pa_nil))))
      (pss_cons (ps_set (i := 20) sc_law.nd rfl (Or.inl rfl) (pe_ix ix_seq (pv 19) (pe_cal C__law_taken h__law_taken (pa_cons (pv 1) (pa_cons (pe_callB call_lenU (by rfl) T.len PySem.boot_len (pa_cons (pv 19) pa_nil)) pa_nil))) (fun _ _ => rfl)))
      (pss_cons (ps_set (i := 21) sc_law.nd rfl (Or.inl rfl) (pe_lst (pa_cons (pe_cal C_changes h_changes (pa_cons (pe_cal C_shown h_shown (pa_cons (pv 11) (pa_cons (pe_slice sl_U (pv 8) po_none (po_some (pv 20))) pa_nil))) pa_nil)) (pa_cons (pe_cal C_changes h_changes (pa_cons (pe_cal C_shown h_shown (pa_cons (pv 11) (pa_cons (pe_slice sl_U (pv 8) (po_some (pv 20)) po_none) pa_nil))) pa_nil)) pa_nil))))
      (pss_one (ps_if (pt_not (pt_chain op_le op_le (pe_callB (cr_max rfl) (by rfl) T.max (by decide +kernel) (pa_cons (pv 21) pa_nil)) (pv 12) (pe_op op_addU (pe_callB (cr_sum rfl) (by rfl) T.sum (by decide +kernel) (pa_cons (pv 21) pa_nil)) pe_int))) (pss_one (ps_ret pe_bl)) pss_nil))))))))))))))))))))))
      (pss_one (ps_ret pe_bl))))
end
end FF
set_option Elab.async false
set_option linter.all false
set_option maxRecDepth 100000
set_option maxHeartbeats 4000000
/-! 12: the contracts -/
namespace FF
open PySem PySem.Spec PyProof.Rows L2 RT
open GxR (TabB TabG Tabbed)
/-- the code objects of the defs that hold a generator expression, and their tables -/
structure Cd where
  c1 : Addr
  p1 : Addr
  c2 : Addr
  p2 : Addr
  c3 : Addr
  p3 : Addr
  c4 : Addr
  p4 : Addr
def Cd.T (d : Cd) : List Addr := [d.p1, d.p2, d.p3, d.p4]
structure Tops (K : PySem.W.Frag) (mg : Str → Option Value) (d : Cd) : Prop where
  is_sign : Top K mg "is_sign" s_is_sign
  is_letter : Top K mg "is_letter" s_is_letter
  refuse_no_text : Top K mg "refuse_no_text" s_refuse_no_text
  parted : Top K mg "parted" s_parted
  is_face : Top K mg "is_face" s_is_face
  first_bad_face : Top K mg "first_bad_face" s_first_bad_face
  refuse_no_case : Top K mg "refuse_no_case" s_refuse_no_case
  choices : Top K mg "choices" s_choices
  missing : Top K mg "missing" s_missing
  tellable : Top K mg "tellable" s_tellable
  longer : Top K mg "longer" s_longer
  least_longer : Top K mg "least_longer" s_least_longer
  least_row : Top K mg "least_row" s_least_row
  shown : Top K mg "shown" s_shown
  changes : Top K mg "changes" s_changes
  l_taken : Top K mg "_law_taken" s__law_taken
  l_pool : Top K mg "_law_pool" s__law_pool
  l_names : Top K mg "_law_names" s__law_names
  l_faces : Top K mg "_law_faces" s__law_faces
  l_signs : Top K mg "_law_signs" s__law_signs
  l_clusters : Top K mg "_law_clusters" s__law_clusters
  l_having : Top K mg "_law_having" s__law_having
  is_name : TopC K mg "is_name" s_is_name d.c1
  is_rising : TopC K mg "is_rising" s_is_rising d.c2
  are_signs_of_face : TopC K mg "are_signs_of_face" s_are_signs_of_face d.c3
  having_faces : TopC K mg "having_faces" s_having_faces d.c4
structure Ms (mg : Str → Option Value) : Prop where
  last : ∃ t, mg "LAST_SIGN" = some (Value.int 999 t)
  first : ∃ t, mg "FIRST_MARK" = some (Value.int 800 t)
  faces : ∃ t, mg "MOST_FACES" = some (Value.int 8 t)
  name : ∃ t, mg "LONGEST_NAME" = some (Value.int 8 t)
  rank : ∃ t, mg "HIGHEST_RANK" = some (Value.int 9 t)
  signs : ∃ t, mg "MOST_SIGNS" = some (Value.int 100 t)
  small : ∃ t, mg "SMALL_LETTERS" = some (Value.str abc t)
structure Tb4 (base : Heap) (mg : Str → Option Value) (d : Cd) : Prop where
  t1 : TabB base mg d.c1 d.p1
  t2 : TabB base mg d.c2 d.p2
  t3 : TabB base mg d.c3 d.p3
  t4 : TabB base mg d.c4 d.p4
section
variable {P : Program} {w : World} {K : PySem.W.Frag} {mg : Str → Option Value} {base : Heap} {d : Cd}
theorem c_is_sign (T : Bi mg) (O : Tops K mg d) (M : Ms mg) : Cal P w K mg base CX0 "is_sign" 1 ["number"] (sp_is_sign K) :=
  O.is_sign.cal (fun _ _ _ _ _ _ us hu => match us, hu with | [_], _ => rfl) fun f fd F => F.ok sc_is_sign (fun vs H Q E h => by obtain ⟨_, rfl, _⟩ := h; rfl) fun cdv A outer s H vs Q E hr h => ⟨r_is_sign K, d_is_sign T M.last f cdv A outer s H E hr, rd_is_sign vs H Q E h⟩
theorem quiet_is_sign (T : Bi mg) (O : Tops K mg d) (M : Ms mg) : ∃ fs, mg "is_sign" = some (.ref fs) ∧ PySem.W.keepIn K (.ref fs) = true ∧ QuietB P w K mg fs isSign := by
  obtain ⟨f, fd, h1, F⟩ := O.is_sign.ex
  obtain ⟨t, ht⟩ := M.last
  exact ⟨f, h1, F.kp, quiet_between (x := "number") (g := "LAST_SIGN") F sc_is_sign (fun _ _ _ _ _ _ us hu => match us, hu with | [_], _ => rfl) rfl rfl rfl ht⟩
theorem c_is_letter (T : Bi mg) (O : Tops K mg d) (M : Ms mg) : Cal P w K mg base CX0 "is_letter" 1 ["sign"] (sp_is_letter K) :=
  O.is_letter.cal (fun _ _ _ _ _ _ us hu => match us, hu with | [_], _ => rfl) fun f fd F => F.ok sc_is_letter (fun vs H Q E h => by obtain ⟨_, rfl, _⟩ := h; rfl) fun cdv A outer s H vs Q E hr h => ⟨r_is_letter K, d_is_letter T M.first f cdv A outer s H E hr, rd_is_letter vs H Q E h⟩
theorem c_refuse_no_text (T : Bi mg) (O : Tops K mg d) (M : Ms mg) : Cal P w K mg base CX0 "refuse_no_text" 2 ["text"] sp_refuseN :=
  O.refuse_no_text.cal (fun _ _ _ _ _ _ us hu => match us, hu with | [_], _ => rfl) fun f fd F => F.ok sc_refuse_no_text (fun vs H Q E h => by obtain ⟨_, _, rfl, _⟩ := h; rfl) fun cdv A outer s H vs Q E hr h => ⟨r_refuseN K, d_refuse_no_text (j := 1) (Nat.le_refl _) T ((c_is_sign T O M).mono (by decide)) f cdv A outer s H E hr, rd_refuseN vs H Q E h⟩
theorem c_parted (T : Bi mg) (O : Tops K mg d) (M : Ms mg) : Cal P w K mg base CX0 "parted" 3 ["text"] sp_partedN :=
  O.parted.cal (fun _ _ _ _ _ _ us hu => match us, hu with | [_], _ => rfl) fun f fd F => F.ok sc_parted (fun vs H Q E h => by obtain ⟨_, _, rfl, _⟩ := h; rfl) fun cdv A outer s H vs Q E hr h => ⟨r_partedN K, d_parted (j := 2) (Nat.le_refl _) T ((c_refuse_no_text T O M).mono (by decide)) ((c_is_letter T O M).mono (by decide)) f cdv A outer s H E hr, rd_partedN vs H Q E h⟩
theorem c_is_name (T : Bi mg) (O : Tops K mg d) (M : Ms mg) (B : Tb4 base mg d) : Cal P w K mg base CX0 "is_name" 1 ["name"] (sp_is_name d.T) := by
  obtain ⟨ts, MS⟩ := M.small
  exact O.is_name.cal (fun _ _ _ _ _ _ us hu => match us, hu with | [_], _ => rfl) fun f fd F => F.ok sc_is_name (fun vs H Q E h => by obtain ⟨_, rfl, _⟩ := h; rfl) fun A outer s H vs Q E hr h => ⟨r_is_name K d.p1, d_is_name T B.t1 M.name MS f A outer s H E hr, rd_is_name (by simp [Cd.T]) vs H Q E h⟩
theorem c_is_rising (T : Bi mg) (O : Tops K mg d) (B : Tb4 base mg d) : Cal P w K mg base CX0 "is_rising" 1 ["numbers"] (sp_is_rising d.T) :=
  O.is_rising.cal (fun _ _ _ _ _ _ us hu => match us, hu with | [_], _ => rfl) fun f fd F => F.ok sc_is_rising (fun vs H Q E h => by obtain ⟨_, _, rfl, _⟩ := h; rfl) fun A outer s H vs Q E hr h => ⟨r_is_rising K d.p2, d_is_rising T B.t2 f A outer s H E hr, rd_is_rising (by simp [Cd.T]) vs H Q E h⟩
theorem c_are_signs_of_face (T : Bi mg) (O : Tops K mg d) (M : Ms mg) (B : Tb4 base mg d) : Cal P w K mg base CX0 "are_signs_of_face" 2 ["signs"] (sp_are_signs d.T) := by
  obtain ⟨fs, q1, q2, q3⟩ := quiet_is_sign (P := P) (w := w) T O M
  exact O.are_signs_of_face.cal (fun _ _ _ _ _ _ us hu => match us, hu with | [_], _ => rfl) fun f fd F => F.ok sc_are_signs_of_face (fun vs H Q E h => by obtain ⟨_, _, rfl, _⟩ := h; rfl) fun A outer s H vs Q E hr h => ⟨r_are_signs K d.T d.p3, d_are_signs_of_face (j := 1) (Nat.le_refl _) (Nat.le_refl _) T B.t3 M.signs ((c_is_rising T O B).mono (by decide)) q1 q2 q3 f A outer s H E hr, rd_are_signs (by simp [Cd.T]) vs H Q E h⟩
theorem c_is_face (T : Bi mg) (O : Tops K mg d) (M : Ms mg) (B : Tb4 base mg d) : Cal P w K mg base CX0 "is_face" 3 ["name", "rank", "signs"] (sp_is_face d.T) :=
  O.is_face.cal (fun _ _ _ _ _ _ us hu => match us, hu with | [_, _, _], _ => rfl) fun f fd F => F.ok sc_is_face (fun vs H Q E h => by obtain ⟨_, _, _, _, rfl, _⟩ := h; rfl) fun cdv A outer s H vs Q E hr h => ⟨r_is_face d.T, d_is_face (j := 2) (Nat.le_refl _) T M.rank ((c_is_name T O M B).mono (by decide)) ((c_are_signs_of_face T O M B).mono (by decide)) f cdv A outer s H E hr, rd_is_face vs H Q E h⟩
theorem c_first_bad_face (T : Bi mg) (O : Tops K mg d) (M : Ms mg) (B : Tb4 base mg d) : Cal P w K mg base CX0 "first_bad_face" 4 ["faces"] (sp_first_bad d.T) :=
  O.first_bad_face.cal (fun _ _ _ _ _ _ us hu => match us, hu with | [_], _ => rfl) fun f fd F => F.ok sc_first_bad_face (fun vs H Q E h => by obtain ⟨_, _, rfl, _⟩ := h; rfl) fun cdv A outer s H vs Q E hr h => ⟨r_first_bad P w K d.T, d_first_bad_face (j := 3) (Nat.le_refl _) T ((c_is_face T O M B).mono (by decide)) f cdv A outer s H E hr, rd_first_bad vs H Q E h⟩
theorem c_refuse_no_case (T : Bi mg) (O : Tops K mg d) (M : Ms mg) (B : Tb4 base mg d) : Cal P w K mg base CX0 "refuse_no_case" 5 ["faces"] (sp_refuse_caseN d.T) :=
  O.refuse_no_case.cal (fun _ _ _ _ _ _ us hu => match us, hu with | [_], _ => rfl) fun f fd F => F.ok sc_refuse_no_case (fun vs H Q E h => by obtain ⟨_, _, rfl, _⟩ := h; rfl) fun cdv A outer s H vs Q E hr h => ⟨r_refuse_caseN K d.T, d_refuse_no_case (j := 4) (Nat.le_refl _) T M.faces ((c_first_bad_face T O M B).mono (by decide)) f cdv A outer s H E hr, rd_refuse_caseN vs H Q E h⟩
/-- the class -/
structure CaseT (K : PySem.W.Frag) (mg : Str → Option Value) (cC fI fF : Addr) (fdI fdF : FuncData) : Prop where
  mg : mg "Case" = some (.ref cC)
  cl : L2.Cls K cC
  no : NoAttr K cC "_faces"
  mkC : Mk K cC fI
  init : Fun K "__init__" "Case.__init__" s_init fI fdI
  faces : Fun K "faces" "Case.faces" s_facesM fF fdF
  mF : Meth K cC "faces" fF
variable {cC fI fF : Addr} {fdI fdF : FuncData}
theorem ok_init (T : Bi mg) (O : Tops K mg d) (M : Ms mg) (B : Tb4 base mg d) (C : CaseT K mg cC fI fF fdI fdF) : FnOk P w K mg base CX0 6 fI fdI ["self", "faces"] (sp_init cC d.T) :=
  C.init.ok sc_init (fun vs H Q E h => by obtain ⟨_, _, _, _, rfl, _⟩ := h; rfl) fun cdv A outer s H vs Q E hr h => ⟨r_init K d.T, d_init (Nat.le_refl _) T (c_refuse_no_case T O M B) fI cdv A outer s H E hr, rd_init C.cl C.no vs H Q E h⟩
theorem ok_faces (T : Bi mg) (C : CaseT K mg cC fI fF fdI fdF) : FnOk P w K mg base CX0 1 fF fdF ["self"] (sp_faces cC) :=
  C.faces.ok sc_facesM (fun vs H Q E h => by obtain ⟨_, _, rfl, _⟩ := h; rfl) fun cdv A outer s H vs Q E hr h => ⟨r_faces K, d_facesM T fF cdv A outer s H E hr, rd_faces C.cl C.no vs H Q E h⟩
theorem bind_init (C : CaseT K mg cC fI fF fdI fdF) : Binds K fdI ["self", "faces"] [] := C.init.binds fun _ _ _ _ _ _ us hu => match us, hu with | [_, _], _ => rfl
theorem bind_faces (C : CaseT K mg cC fI fF fdI fdF) : Binds K fdF ["self"] [] := C.faces.binds fun _ _ _ _ _ _ us hu => match us, hu with | [_], _ => rfl
theorem c_having_faces (T : Bi mg) (O : Tops K mg d) (B : Tb4 base mg d) : Cal P w K mg base CX0 "having_faces" 1 ["faces", "cluster"] (sp_having d.T) :=
  O.having_faces.cal (fun _ _ _ _ _ _ us hu => match us, hu with | [_, _], _ => rfl) fun f fd F => F.ok sc_having_faces (fun vs H Q E h => by obtain ⟨_, _, _, _, rfl, _⟩ := h; rfl) fun A outer s H vs Q E hr h => ⟨r_having K d.p4, d_having_faces T B.t4 f A outer s H E hr, rd_having (by simp [Cd.T]) vs H Q E h⟩
theorem c_choices (T : Bi mg) (O : Tops K mg d) (M : Ms mg) (B : Tb4 base mg d) (C : CaseT K mg cC fI fF fdI fdF) : Cal P w K mg base CX0 "choices" 4 ["case", "text"] (sp_choices cC d.T) :=
  O.choices.cal (fun _ _ _ _ _ _ us hu => match us, hu with | [_, _], _ => rfl) fun f fd F => F.ok sc_choices (fun vs H Q E h => by obtain ⟨_, _, _, _, rfl, _⟩ := h; rfl) fun cdv A outer s H vs Q E hr h => ⟨r_choices K cC d.T, d_choices (j := 3) (Nat.le_refl _) (by decide) T C.cl C.mF (ok_faces T C) (bind_faces C) ((c_parted T O M).mono (by decide)) ((c_having_faces T O B).mono (by decide)) f cdv A outer s H E hr, rd_choices vs H Q E h⟩
theorem c_missing (T : Bi mg) (O : Tops K mg d) (M : Ms mg) (B : Tb4 base mg d) (C : CaseT K mg cC fI fF fdI fdF) : Cal P w K mg base CX0 "missing" 3 ["case", "text"] (sp_missing cC d.T) :=
  O.missing.cal (fun _ _ _ _ _ _ us hu => match us, hu with | [_, _], _ => rfl) fun f fd F => F.ok sc_missing (fun vs H Q E h => by obtain ⟨_, _, _, _, rfl, _⟩ := h; rfl) fun cdv A outer s H vs Q E hr h => ⟨r_missing w K cC d.T, d_missing (j := 2) (Nat.le_refl _) (by decide) T C.cl C.mF (ok_faces T C) (bind_faces C) ((c_refuse_no_text T O M).mono (by decide)) ((c_having_faces T O B).mono (by decide)) f cdv A outer s H E hr, rd_missing vs H Q E h⟩
theorem c_tellable (T : Bi mg) (O : Tops K mg d) : Cal P w K mg base CX0 "tellable" 1 ["faces"] sp_tellable :=
  O.tellable.cal (fun _ _ _ _ _ _ us hu => match us, hu with | [_], _ => rfl) fun f fd F => F.ok sc_tellable (fun vs H Q E h => by obtain ⟨_, _, rfl, _⟩ := h; rfl) fun cdv A outer s H vs Q E hr h => ⟨r_tellable K, d_tellable T  f cdv A outer s H E hr, rd_tellable vs H Q E h⟩
theorem c_longer (T : Bi mg) (O : Tops K mg d) : Cal P w K mg base CX0 "longer" 1 ["ahead", "face", "face_had", "ranks"] sp_longer :=
  O.longer.cal (fun _ _ _ _ _ _ us hu => match us, hu with | [_, _, _, _], _ => rfl) fun f fd F => F.ok sc_longer (fun vs H Q E h => by obtain ⟨_, _, _, _, _, _, _, _, rfl, _⟩ := h; rfl) fun cdv A outer s H vs Q E hr h => ⟨r_longer K, d_longer T  f cdv A outer s H E hr, rd_longer vs H Q E h⟩
theorem c_least_longer (T : Bi mg) (O : Tops K mg d) : Cal P w K mg base CX0 "least_longer" 2 ["least", "face", "face_had", "ranks"] sp_least_longer :=
  O.least_longer.cal (fun _ _ _ _ _ _ us hu => match us, hu with | [_, _, _, _], _ => rfl) fun f fd F => F.ok sc_least_longer (fun vs H Q E h => by obtain ⟨_, _, _, _, _, _, _, _, _, _, rfl, _⟩ := h; rfl) fun cdv A outer s H vs Q E hr h => ⟨r_least_longer K, d_least_longer (j := 1) (Nat.le_refl _) T ((c_longer T O).mono (by decide)) f cdv A outer s H E hr, rd_least_longer vs H Q E h⟩
theorem c_least_row (T : Bi mg) (O : Tops K mg d) : Cal P w K mg base CX0 "least_row" 3 ["choices", "ranks", "had"] sp_least_row :=
  O.least_row.cal (fun _ _ _ _ _ _ us hu => match us, hu with | [_, _, _], _ => rfl) fun f fd F => F.ok sc_least_row (fun vs H Q E h => by obtain ⟨_, _, _, _, _, _, rfl, _⟩ := h; rfl) fun cdv A outer s H vs Q E hr h => ⟨r_least_row K, d_least_row (j := 2) (Nat.le_refl _) T ((c_tellable T O).mono (by decide)) ((c_least_longer T O).mono (by decide)) f cdv A outer s H E hr, rd_least_row vs H Q E h⟩
theorem c_shown (T : Bi mg) (O : Tops K mg d) (M : Ms mg) (B : Tb4 base mg d) (C : CaseT K mg cC fI fF fdI fdF) : Cal P w K mg base CX0 "shown" 5 ["case", "text"] (sp_shown cC d.T) :=
  O.shown.cal (fun _ _ _ _ _ _ us hu => match us, hu with | [_, _], _ => rfl) fun f fd F => F.ok sc_shown (fun vs H Q E h => by obtain ⟨_, _, _, _, rfl, _⟩ := h; rfl) fun cdv A outer s H vs Q E hr h => ⟨r_shown K cC d.T, d_shown (j := 4) (Nat.le_refl _) T C.cl C.mF (ok_faces T C) (bind_faces C) (by decide) ((c_choices T O M B C).mono (by decide)) ((c_least_row T O).mono (by decide)) f cdv A outer s H E hr, rd_shown vs H Q E h⟩
theorem c_changes (T : Bi mg) (O : Tops K mg d) : Cal P w K mg base CX0 "changes" 1 ["row"] sp_changes :=
  O.changes.cal (fun _ _ _ _ _ _ us hu => match us, hu with | [_], _ => rfl) fun f fd F => F.ok sc_changes (fun vs H Q E h => by obtain ⟨_, _, rfl, _⟩ := h; rfl) fun cdv A outer s H vs Q E hr h => ⟨r_changes K, d_changes T  f cdv A outer s H E hr, rd_changes vs H Q E h⟩
theorem c__law_taken (T : Bi mg) (O : Tops K mg d) : Cal P w K mg base CX0 "_law_taken" 1 ["_law_row", "_law_many"] (sp__law_taken K) :=
  O.l_taken.cal (fun _ _ _ _ _ _ us hu => match us, hu with | [_, _], _ => rfl) fun f fd F => F.ok sc__law_taken (fun vs H Q E h => by obtain ⟨_, _, _, _, rfl, _⟩ := h; rfl) fun cdv A outer s H vs Q E hr h => ⟨r__law_taken K, d__law_taken T  f cdv A outer s H E hr, rd__law_taken vs H Q E h⟩
theorem c__law_pool (T : Bi mg) (O : Tops K mg d) : Cal P w K mg base CX0 "_law_pool" 2 ["_law_row"] (sp__law_pool K) :=
  O.l_pool.cal (fun _ _ _ _ _ _ us hu => match us, hu with | [_], _ => rfl) fun f fd F => F.ok sc__law_pool (fun vs H Q E h => by obtain ⟨_, _, _, rfl, _⟩ := h; rfl) fun cdv A outer s H vs Q E hr h => ⟨r__law_pool K, d__law_pool (j := 1) (Nat.le_refl _) T ((c__law_taken T O).mono (by decide)) f cdv A outer s H E hr, rd__law_pool vs H Q E h⟩
theorem c__law_names (T : Bi mg) (O : Tops K mg d) : Cal P w K mg base CX0 "_law_names" 2 ["_law_row", "_law_many"] (sp__law_names K) :=
  O.l_names.cal (fun _ _ _ _ _ _ us hu => match us, hu with | [_, _], _ => rfl) fun f fd F => F.ok sc__law_names (fun vs H Q E h => by obtain ⟨_, _, _, _, rfl, _⟩ := h; rfl) fun cdv A outer s H vs Q E hr h => ⟨r__law_names K, d__law_names (j := 1) (Nat.le_refl _) T ((c__law_taken T O).mono (by decide)) f cdv A outer s H E hr, rd__law_names vs H Q E h⟩
theorem c__law_faces (T : Bi mg) (O : Tops K mg d) : Cal P w K mg base CX0 "_law_faces" 3 ["_law_row", "_law_pool_here", "_law_most"] (sp__law_facesM K) :=
  O.l_faces.cal (fun _ _ _ _ _ _ us hu => match us, hu with | [_, _, _], _ => rfl) fun f fd F => F.ok sc__law_faces (fun vs H Q E h => by obtain ⟨_, _, _, _, _, _, _, rfl, _⟩ := h; rfl) fun cdv A outer s H vs Q E hr h => ⟨r__law_faces K, d__law_faces (j := 2) (Nat.le_refl _) T ((c__law_names T O).mono (by decide)) ((c__law_taken T O).mono (by decide)) f cdv A outer s H E hr, rd__law_facesM vs H Q E h⟩
theorem c__law_signs (T : Bi mg) (O : Tops K mg d) : Cal P w K mg base CX0 "_law_signs" 2 ["_law_row", "_law_pool_here", "_law_most"] (sp__law_signs K) :=
  O.l_signs.cal (fun _ _ _ _ _ _ us hu => match us, hu with | [_, _, _], _ => rfl) fun f fd F => F.ok sc__law_signs (fun vs H Q E h => by obtain ⟨_, _, _, _, _, _, _, rfl, _⟩ := h; rfl) fun cdv A outer s H vs Q E hr h => ⟨r__law_signs_a K, d__law_signs (j := 1) (Nat.le_refl _) T ((c__law_taken T O).mono (by decide)) f cdv A outer s H E hr, rd__law_signs_a vs H Q E h⟩
theorem c__law_clusters (T : Bi mg) (O : Tops K mg d) : Cal P w K mg base CX0 "_law_clusters" 1 ["_law_text"] (sp__law_clusters K) :=
  O.l_clusters.cal (fun _ _ _ _ _ _ us hu => match us, hu with | [_], _ => rfl) fun f fd F => F.ok sc__law_clusters (fun vs H Q E h => by obtain ⟨_, _, rfl, _⟩ := h; rfl) fun cdv A outer s H vs Q E hr h => ⟨r__law_clusters K, d__law_clusters T  f cdv A outer s H E hr, rd__law_clusters vs H Q E h⟩
theorem c__law_having (T : Bi mg) (O : Tops K mg d) : Cal P w K mg base CX0 "_law_having" 1 ["_law_faces_here", "_law_signs_here"] (sp__law_having K) :=
  O.l_having.cal (fun _ _ _ _ _ _ us hu => match us, hu with | [_, _], _ => rfl) fun f fd F => F.ok sc__law_having (fun vs H Q E h => by obtain ⟨_, _, _, _, rfl, _⟩ := h; rfl) fun cdv A outer s H vs Q E hr h => ⟨r__law_having K, d__law_having T  f cdv A outer s H E hr, rd__law_having vs H Q E h⟩
theorem ok_law {f : Addr} {fd : FuncData} (F : Fun K "law" "law" s_law f fd) (T : Bi mg) (O : Tops K mg d) (M : Ms mg) (B : Tb4 base mg d) (C : CaseT K mg cC fI fF fdI fdF) : FnOk P w K mg base CX0 8 f fd ["_law_script"] (sp2_law K d.T) :=
  F.ok sc_law (fun vs H Q E h => by obtain ⟨_, _, rfl, _⟩ := h; rfl) fun cdv A outer s H vs Q E hr h => ⟨r12_law K cC d.T, d_law (j := 7) (Nat.le_refl _) T ((c__law_pool T O).mono (by decide)) ((c__law_names T O).mono (by decide)) ((c__law_faces T O).mono (by decide)) ((c__law_signs T O).mono (by decide)) ((c__law_clusters T O).mono (by decide)) ((c__law_having T O).mono (by decide)) ((c_changes T O).mono (by decide)) ((c_shown T O M B C).mono (by decide)) ((c_missing T O M B C).mono (by decide)) ((c__law_taken T O).mono (by decide)) C.mkC (ok_init T O M B C) (bind_init C) C.mg (by decide) f cdv A outer s H E hr, rd12_law vs H Q E h⟩
end
end FF
set_option Elab.async false
set_option linter.all false
set_option maxRecDepth 100000
set_option maxHeartbeats 4000000
/-! 12: the head -/
namespace FF
open PySem PySem.Spec PyProof.Rows L2 RT
open GxR (TabB TabG Tabbed)
theorem k12_all {l : PySem.W.OpenLaw} {w : World} {K : PySem.W.Frag} {h : Heap} {mg : Str → Option Value} {fa : Addr} (X : K.In h) (G : h.Ns mainGlobals mg) (hfa : mg "law" = some (.ref fa))
    (tab : ∀ (x : Str) (c p : Addr), x ∈ (["is_name", "is_rising", "are_signs_of_face", "having_faces"] : List Str) → PySem.W.tabIn K x = some (c, p) → PySem.W.CodeHd h c p ∧ h.get? p = some { cls := .none, data := .fields #[] })
    {cC c1 p1 c2 p2 c3 p3 c4 p4 : Addr}
    {f_is_sign : Addr} {oc_is_sign : Value} {od_is_sign an_is_sign : Option Addr} {sl_is_sign : Array (Option Value)} {kV_is_sign dc_is_sign pm_is_sign cd_is_sign ct_is_sign : Value}
    {f_is_letter : Addr} {oc_is_letter : Value} {od_is_letter an_is_letter : Option Addr} {sl_is_letter : Array (Option Value)} {kV_is_letter dc_is_letter pm_is_letter cd_is_letter ct_is_letter : Value}
    {f_refuse_no_text : Addr} {oc_refuse_no_text : Value} {od_refuse_no_text an_refuse_no_text : Option Addr} {sl_refuse_no_text : Array (Option Value)} {kV_refuse_no_text dc_refuse_no_text pm_refuse_no_text cd_refuse_no_text ct_refuse_no_text : Value}
    {f_parted : Addr} {oc_parted : Value} {od_parted an_parted : Option Addr} {sl_parted : Array (Option Value)} {kV_parted dc_parted pm_parted cd_parted ct_parted : Value}
    {f_is_face : Addr} {oc_is_face : Value} {od_is_face an_is_face : Option Addr} {sl_is_face : Array (Option Value)} {kV_is_face dc_is_face pm_is_face cd_is_face ct_is_face : Value}
    {f_first_bad_face : Addr} {oc_first_bad_face : Value} {od_first_bad_face an_first_bad_face : Option Addr} {sl_first_bad_face : Array (Option Value)} {kV_first_bad_face dc_first_bad_face pm_first_bad_face cd_first_bad_face ct_first_bad_face : Value}
    {f_refuse_no_case : Addr} {oc_refuse_no_case : Value} {od_refuse_no_case an_refuse_no_case : Option Addr} {sl_refuse_no_case : Array (Option Value)} {kV_refuse_no_case dc_refuse_no_case pm_refuse_no_case cd_refuse_no_case ct_refuse_no_case : Value}
    {f_choices : Addr} {oc_choices : Value} {od_choices an_choices : Option Addr} {sl_choices : Array (Option Value)} {kV_choices dc_choices pm_choices cd_choices ct_choices : Value}
    {f_missing : Addr} {oc_missing : Value} {od_missing an_missing : Option Addr} {sl_missing : Array (Option Value)} {kV_missing dc_missing pm_missing cd_missing ct_missing : Value}
    {f_tellable : Addr} {oc_tellable : Value} {od_tellable an_tellable : Option Addr} {sl_tellable : Array (Option Value)} {kV_tellable dc_tellable pm_tellable cd_tellable ct_tellable : Value}
    {f_longer : Addr} {oc_longer : Value} {od_longer an_longer : Option Addr} {sl_longer : Array (Option Value)} {kV_longer dc_longer pm_longer cd_longer ct_longer : Value}
    {f_least_longer : Addr} {oc_least_longer : Value} {od_least_longer an_least_longer : Option Addr} {sl_least_longer : Array (Option Value)} {kV_least_longer dc_least_longer pm_least_longer cd_least_longer ct_least_longer : Value}
    {f_least_row : Addr} {oc_least_row : Value} {od_least_row an_least_row : Option Addr} {sl_least_row : Array (Option Value)} {kV_least_row dc_least_row pm_least_row cd_least_row ct_least_row : Value}
    {f_shown : Addr} {oc_shown : Value} {od_shown an_shown : Option Addr} {sl_shown : Array (Option Value)} {kV_shown dc_shown pm_shown cd_shown ct_shown : Value}
    {f_changes : Addr} {oc_changes : Value} {od_changes an_changes : Option Addr} {sl_changes : Array (Option Value)} {kV_changes dc_changes pm_changes cd_changes ct_changes : Value}
    {f_l_taken : Addr} {oc_l_taken : Value} {od_l_taken an_l_taken : Option Addr} {sl_l_taken : Array (Option Value)} {kV_l_taken dc_l_taken pm_l_taken cd_l_taken ct_l_taken : Value}
    {f_l_pool : Addr} {oc_l_pool : Value} {od_l_pool an_l_pool : Option Addr} {sl_l_pool : Array (Option Value)} {kV_l_pool dc_l_pool pm_l_pool cd_l_pool ct_l_pool : Value}
    {f_l_names : Addr} {oc_l_names : Value} {od_l_names an_l_names : Option Addr} {sl_l_names : Array (Option Value)} {kV_l_names dc_l_names pm_l_names cd_l_names ct_l_names : Value}
    {f_l_faces : Addr} {oc_l_faces : Value} {od_l_faces an_l_faces : Option Addr} {sl_l_faces : Array (Option Value)} {kV_l_faces dc_l_faces pm_l_faces cd_l_faces ct_l_faces : Value}
    {f_l_signs : Addr} {oc_l_signs : Value} {od_l_signs an_l_signs : Option Addr} {sl_l_signs : Array (Option Value)} {kV_l_signs dc_l_signs pm_l_signs cd_l_signs ct_l_signs : Value}
    {f_l_clusters : Addr} {oc_l_clusters : Value} {od_l_clusters an_l_clusters : Option Addr} {sl_l_clusters : Array (Option Value)} {kV_l_clusters dc_l_clusters pm_l_clusters cd_l_clusters ct_l_clusters : Value}
    {f_l_having : Addr} {oc_l_having : Value} {od_l_having an_l_having : Option Addr} {sl_l_having : Array (Option Value)} {kV_l_having dc_l_having pm_l_having cd_l_having ct_l_having : Value}
    {f_law : Addr} {oc_law : Value} {od_law an_law : Option Addr} {sl_law : Array (Option Value)} {kV_law dc_law pm_law cd_law ct_law : Value}
    {f_is_name : Addr} {oc_is_name : Value} {od_is_name an_is_name : Option Addr} {sl_is_name : Array (Option Value)} {kV_is_name dc_is_name pm_is_name  ct_is_name : Value}
    {f_is_rising : Addr} {oc_is_rising : Value} {od_is_rising an_is_rising : Option Addr} {sl_is_rising : Array (Option Value)} {kV_is_rising dc_is_rising pm_is_rising  ct_is_rising : Value}
    {f_are_signs_of_face : Addr} {oc_are_signs_of_face : Value} {od_are_signs_of_face an_are_signs_of_face : Option Addr} {sl_are_signs_of_face : Array (Option Value)} {kV_are_signs_of_face dc_are_signs_of_face pm_are_signs_of_face  ct_are_signs_of_face : Value}
    {f_having_faces : Addr} {oc_having_faces : Value} {od_having_faces an_having_faces : Option Addr} {sl_having_faces : Array (Option Value)} {kV_having_faces dc_having_faces pm_having_faces  ct_having_faces : Value}
    {f_init : Addr} {oc_init : Value} {od_init an_init : Option Addr} {sl_init : Array (Option Value)} {kV_init dc_init pm_init cd_init ct_init : Value}
    {f_facesM : Addr} {oc_facesM : Value} {od_facesM an_facesM : Option Addr} {sl_facesM : Array (Option Value)} {kV_facesM dc_facesM pm_facesM cd_facesM ct_facesM : Value}
    {u_last u_first u_faces u_name u_rank u_signs u_small : Tok}
    (aC : PySem.W.nsIn K mainGlobals "Case" = some (some (.ref cC)))
    (t_1 : PySem.W.tabIn K "is_name" = some (c1, p1))
    (n_1 : K.lookup p1 = none)
    (t_2 : PySem.W.tabIn K "is_rising" = some (c2, p2))
    (n_2 : K.lookup p2 = none)
    (t_3 : PySem.W.tabIn K "are_signs_of_face" = some (c3, p3))
    (n_3 : K.lookup p3 = none)
    (t_4 : PySem.W.tabIn K "having_faces" = some (c4, p4))
    (n_4 : K.lookup p4 = none)
    (a_is_sign : PySem.W.nsIn K mainGlobals "is_sign" = some (some (.ref f_is_sign)))
    (l_is_sign : K.lookup f_is_sign = some ⟨oc_is_sign, od_is_sign, .func (PySem.W.fnOf "is_sign" "is_sign" (defArgs s_is_sign) (defBody s_is_sign) (defScope s_is_sign) .none kV_is_sign dc_is_sign pm_is_sign an_is_sign cd_is_sign ct_is_sign), sl_is_sign⟩)
    (c_is_sign : PySem.W.codeIn K cd_is_sign "is_sign" = true)
    (k_is_sign : PySem.W.keepIn K (.ref f_is_sign) = true)
    (a_is_letter : PySem.W.nsIn K mainGlobals "is_letter" = some (some (.ref f_is_letter)))
    (l_is_letter : K.lookup f_is_letter = some ⟨oc_is_letter, od_is_letter, .func (PySem.W.fnOf "is_letter" "is_letter" (defArgs s_is_letter) (defBody s_is_letter) (defScope s_is_letter) .none kV_is_letter dc_is_letter pm_is_letter an_is_letter cd_is_letter ct_is_letter), sl_is_letter⟩)
    (c_is_letter : PySem.W.codeIn K cd_is_letter "is_letter" = true)
    (k_is_letter : PySem.W.keepIn K (.ref f_is_letter) = true)
    (a_refuse_no_text : PySem.W.nsIn K mainGlobals "refuse_no_text" = some (some (.ref f_refuse_no_text)))
    (l_refuse_no_text : K.lookup f_refuse_no_text = some ⟨oc_refuse_no_text, od_refuse_no_text, .func (PySem.W.fnOf "refuse_no_text" "refuse_no_text" (defArgs s_refuse_no_text) (defBody s_refuse_no_text) (defScope s_refuse_no_text) .none kV_refuse_no_text dc_refuse_no_text pm_refuse_no_text an_refuse_no_text cd_refuse_no_text ct_refuse_no_text), sl_refuse_no_text⟩)
    (c_refuse_no_text : PySem.W.codeIn K cd_refuse_no_text "refuse_no_text" = true)
    (k_refuse_no_text : PySem.W.keepIn K (.ref f_refuse_no_text) = true)
    (a_parted : PySem.W.nsIn K mainGlobals "parted" = some (some (.ref f_parted)))
    (l_parted : K.lookup f_parted = some ⟨oc_parted, od_parted, .func (PySem.W.fnOf "parted" "parted" (defArgs s_parted) (defBody s_parted) (defScope s_parted) .none kV_parted dc_parted pm_parted an_parted cd_parted ct_parted), sl_parted⟩)
    (c_parted : PySem.W.codeIn K cd_parted "parted" = true)
    (k_parted : PySem.W.keepIn K (.ref f_parted) = true)
    (a_is_face : PySem.W.nsIn K mainGlobals "is_face" = some (some (.ref f_is_face)))
    (l_is_face : K.lookup f_is_face = some ⟨oc_is_face, od_is_face, .func (PySem.W.fnOf "is_face" "is_face" (defArgs s_is_face) (defBody s_is_face) (defScope s_is_face) .none kV_is_face dc_is_face pm_is_face an_is_face cd_is_face ct_is_face), sl_is_face⟩)
    (c_is_face : PySem.W.codeIn K cd_is_face "is_face" = true)
    (k_is_face : PySem.W.keepIn K (.ref f_is_face) = true)
    (a_first_bad_face : PySem.W.nsIn K mainGlobals "first_bad_face" = some (some (.ref f_first_bad_face)))
    (l_first_bad_face : K.lookup f_first_bad_face = some ⟨oc_first_bad_face, od_first_bad_face, .func (PySem.W.fnOf "first_bad_face" "first_bad_face" (defArgs s_first_bad_face) (defBody s_first_bad_face) (defScope s_first_bad_face) .none kV_first_bad_face dc_first_bad_face pm_first_bad_face an_first_bad_face cd_first_bad_face ct_first_bad_face), sl_first_bad_face⟩)
    (c_first_bad_face : PySem.W.codeIn K cd_first_bad_face "first_bad_face" = true)
    (k_first_bad_face : PySem.W.keepIn K (.ref f_first_bad_face) = true)
    (a_refuse_no_case : PySem.W.nsIn K mainGlobals "refuse_no_case" = some (some (.ref f_refuse_no_case)))
    (l_refuse_no_case : K.lookup f_refuse_no_case = some ⟨oc_refuse_no_case, od_refuse_no_case, .func (PySem.W.fnOf "refuse_no_case" "refuse_no_case" (defArgs s_refuse_no_case) (defBody s_refuse_no_case) (defScope s_refuse_no_case) .none kV_refuse_no_case dc_refuse_no_case pm_refuse_no_case an_refuse_no_case cd_refuse_no_case ct_refuse_no_case), sl_refuse_no_case⟩)
    (c_refuse_no_case : PySem.W.codeIn K cd_refuse_no_case "refuse_no_case" = true)
    (k_refuse_no_case : PySem.W.keepIn K (.ref f_refuse_no_case) = true)
    (a_choices : PySem.W.nsIn K mainGlobals "choices" = some (some (.ref f_choices)))
    (l_choices : K.lookup f_choices = some ⟨oc_choices, od_choices, .func (PySem.W.fnOf "choices" "choices" (defArgs s_choices) (defBody s_choices) (defScope s_choices) .none kV_choices dc_choices pm_choices an_choices cd_choices ct_choices), sl_choices⟩)
    (c_choices : PySem.W.codeIn K cd_choices "choices" = true)
    (k_choices : PySem.W.keepIn K (.ref f_choices) = true)
    (a_missing : PySem.W.nsIn K mainGlobals "missing" = some (some (.ref f_missing)))
    (l_missing : K.lookup f_missing = some ⟨oc_missing, od_missing, .func (PySem.W.fnOf "missing" "missing" (defArgs s_missing) (defBody s_missing) (defScope s_missing) .none kV_missing dc_missing pm_missing an_missing cd_missing ct_missing), sl_missing⟩)
    (c_missing : PySem.W.codeIn K cd_missing "missing" = true)
    (k_missing : PySem.W.keepIn K (.ref f_missing) = true)
    (a_tellable : PySem.W.nsIn K mainGlobals "tellable" = some (some (.ref f_tellable)))
    (l_tellable : K.lookup f_tellable = some ⟨oc_tellable, od_tellable, .func (PySem.W.fnOf "tellable" "tellable" (defArgs s_tellable) (defBody s_tellable) (defScope s_tellable) .none kV_tellable dc_tellable pm_tellable an_tellable cd_tellable ct_tellable), sl_tellable⟩)
    (c_tellable : PySem.W.codeIn K cd_tellable "tellable" = true)
    (k_tellable : PySem.W.keepIn K (.ref f_tellable) = true)
    (a_longer : PySem.W.nsIn K mainGlobals "longer" = some (some (.ref f_longer)))
    (l_longer : K.lookup f_longer = some ⟨oc_longer, od_longer, .func (PySem.W.fnOf "longer" "longer" (defArgs s_longer) (defBody s_longer) (defScope s_longer) .none kV_longer dc_longer pm_longer an_longer cd_longer ct_longer), sl_longer⟩)
    (c_longer : PySem.W.codeIn K cd_longer "longer" = true)
    (k_longer : PySem.W.keepIn K (.ref f_longer) = true)
    (a_least_longer : PySem.W.nsIn K mainGlobals "least_longer" = some (some (.ref f_least_longer)))
    (l_least_longer : K.lookup f_least_longer = some ⟨oc_least_longer, od_least_longer, .func (PySem.W.fnOf "least_longer" "least_longer" (defArgs s_least_longer) (defBody s_least_longer) (defScope s_least_longer) .none kV_least_longer dc_least_longer pm_least_longer an_least_longer cd_least_longer ct_least_longer), sl_least_longer⟩)
    (c_least_longer : PySem.W.codeIn K cd_least_longer "least_longer" = true)
    (k_least_longer : PySem.W.keepIn K (.ref f_least_longer) = true)
    (a_least_row : PySem.W.nsIn K mainGlobals "least_row" = some (some (.ref f_least_row)))
    (l_least_row : K.lookup f_least_row = some ⟨oc_least_row, od_least_row, .func (PySem.W.fnOf "least_row" "least_row" (defArgs s_least_row) (defBody s_least_row) (defScope s_least_row) .none kV_least_row dc_least_row pm_least_row an_least_row cd_least_row ct_least_row), sl_least_row⟩)
    (c_least_row : PySem.W.codeIn K cd_least_row "least_row" = true)
    (k_least_row : PySem.W.keepIn K (.ref f_least_row) = true)
    (a_shown : PySem.W.nsIn K mainGlobals "shown" = some (some (.ref f_shown)))
    (l_shown : K.lookup f_shown = some ⟨oc_shown, od_shown, .func (PySem.W.fnOf "shown" "shown" (defArgs s_shown) (defBody s_shown) (defScope s_shown) .none kV_shown dc_shown pm_shown an_shown cd_shown ct_shown), sl_shown⟩)
    (c_shown : PySem.W.codeIn K cd_shown "shown" = true)
    (k_shown : PySem.W.keepIn K (.ref f_shown) = true)
    (a_changes : PySem.W.nsIn K mainGlobals "changes" = some (some (.ref f_changes)))
    (l_changes : K.lookup f_changes = some ⟨oc_changes, od_changes, .func (PySem.W.fnOf "changes" "changes" (defArgs s_changes) (defBody s_changes) (defScope s_changes) .none kV_changes dc_changes pm_changes an_changes cd_changes ct_changes), sl_changes⟩)
    (c_changes : PySem.W.codeIn K cd_changes "changes" = true)
    (k_changes : PySem.W.keepIn K (.ref f_changes) = true)
    (a_l_taken : PySem.W.nsIn K mainGlobals "_law_taken" = some (some (.ref f_l_taken)))
    (l_l_taken : K.lookup f_l_taken = some ⟨oc_l_taken, od_l_taken, .func (PySem.W.fnOf "_law_taken" "_law_taken" (defArgs s__law_taken) (defBody s__law_taken) (defScope s__law_taken) .none kV_l_taken dc_l_taken pm_l_taken an_l_taken cd_l_taken ct_l_taken), sl_l_taken⟩)
    (c_l_taken : PySem.W.codeIn K cd_l_taken "_law_taken" = true)
    (k_l_taken : PySem.W.keepIn K (.ref f_l_taken) = true)
    (a_l_pool : PySem.W.nsIn K mainGlobals "_law_pool" = some (some (.ref f_l_pool)))
    (l_l_pool : K.lookup f_l_pool = some ⟨oc_l_pool, od_l_pool, .func (PySem.W.fnOf "_law_pool" "_law_pool" (defArgs s__law_pool) (defBody s__law_pool) (defScope s__law_pool) .none kV_l_pool dc_l_pool pm_l_pool an_l_pool cd_l_pool ct_l_pool), sl_l_pool⟩)
    (c_l_pool : PySem.W.codeIn K cd_l_pool "_law_pool" = true)
    (k_l_pool : PySem.W.keepIn K (.ref f_l_pool) = true)
    (a_l_names : PySem.W.nsIn K mainGlobals "_law_names" = some (some (.ref f_l_names)))
    (l_l_names : K.lookup f_l_names = some ⟨oc_l_names, od_l_names, .func (PySem.W.fnOf "_law_names" "_law_names" (defArgs s__law_names) (defBody s__law_names) (defScope s__law_names) .none kV_l_names dc_l_names pm_l_names an_l_names cd_l_names ct_l_names), sl_l_names⟩)
    (c_l_names : PySem.W.codeIn K cd_l_names "_law_names" = true)
    (k_l_names : PySem.W.keepIn K (.ref f_l_names) = true)
    (a_l_faces : PySem.W.nsIn K mainGlobals "_law_faces" = some (some (.ref f_l_faces)))
    (l_l_faces : K.lookup f_l_faces = some ⟨oc_l_faces, od_l_faces, .func (PySem.W.fnOf "_law_faces" "_law_faces" (defArgs s__law_faces) (defBody s__law_faces) (defScope s__law_faces) .none kV_l_faces dc_l_faces pm_l_faces an_l_faces cd_l_faces ct_l_faces), sl_l_faces⟩)
    (c_l_faces : PySem.W.codeIn K cd_l_faces "_law_faces" = true)
    (k_l_faces : PySem.W.keepIn K (.ref f_l_faces) = true)
    (a_l_signs : PySem.W.nsIn K mainGlobals "_law_signs" = some (some (.ref f_l_signs)))
    (l_l_signs : K.lookup f_l_signs = some ⟨oc_l_signs, od_l_signs, .func (PySem.W.fnOf "_law_signs" "_law_signs" (defArgs s__law_signs) (defBody s__law_signs) (defScope s__law_signs) .none kV_l_signs dc_l_signs pm_l_signs an_l_signs cd_l_signs ct_l_signs), sl_l_signs⟩)
    (c_l_signs : PySem.W.codeIn K cd_l_signs "_law_signs" = true)
    (k_l_signs : PySem.W.keepIn K (.ref f_l_signs) = true)
    (a_l_clusters : PySem.W.nsIn K mainGlobals "_law_clusters" = some (some (.ref f_l_clusters)))
    (l_l_clusters : K.lookup f_l_clusters = some ⟨oc_l_clusters, od_l_clusters, .func (PySem.W.fnOf "_law_clusters" "_law_clusters" (defArgs s__law_clusters) (defBody s__law_clusters) (defScope s__law_clusters) .none kV_l_clusters dc_l_clusters pm_l_clusters an_l_clusters cd_l_clusters ct_l_clusters), sl_l_clusters⟩)
    (c_l_clusters : PySem.W.codeIn K cd_l_clusters "_law_clusters" = true)
    (k_l_clusters : PySem.W.keepIn K (.ref f_l_clusters) = true)
    (a_l_having : PySem.W.nsIn K mainGlobals "_law_having" = some (some (.ref f_l_having)))
    (l_l_having : K.lookup f_l_having = some ⟨oc_l_having, od_l_having, .func (PySem.W.fnOf "_law_having" "_law_having" (defArgs s__law_having) (defBody s__law_having) (defScope s__law_having) .none kV_l_having dc_l_having pm_l_having an_l_having cd_l_having ct_l_having), sl_l_having⟩)
    (c_l_having : PySem.W.codeIn K cd_l_having "_law_having" = true)
    (k_l_having : PySem.W.keepIn K (.ref f_l_having) = true)
    (a_law : PySem.W.nsIn K mainGlobals "law" = some (some (.ref f_law)))
    (l_law : K.lookup f_law = some ⟨oc_law, od_law, .func (PySem.W.fnOf "law" "law" (defArgs s_law) (defBody s_law) (defScope s_law) .none kV_law dc_law pm_law an_law cd_law ct_law), sl_law⟩)
    (c_law : PySem.W.codeIn K cd_law "law" = true)
    (k_law : PySem.W.keepIn K (.ref f_law) = true)
    (a_is_name : PySem.W.nsIn K mainGlobals "is_name" = some (some (.ref f_is_name)))
    (l_is_name : K.lookup f_is_name = some ⟨oc_is_name, od_is_name, .func (PySem.W.fnOf "is_name" "is_name" (defArgs s_is_name) (defBody s_is_name) (defScope s_is_name) .none kV_is_name dc_is_name pm_is_name an_is_name (.ref c1) ct_is_name), sl_is_name⟩)
    (c_is_name : PySem.W.codeIn K (.ref c1) "is_name" = true)
    (k_is_name : PySem.W.keepIn K (.ref f_is_name) = true)
    (a_is_rising : PySem.W.nsIn K mainGlobals "is_rising" = some (some (.ref f_is_rising)))
    (l_is_rising : K.lookup f_is_rising = some ⟨oc_is_rising, od_is_rising, .func (PySem.W.fnOf "is_rising" "is_rising" (defArgs s_is_rising) (defBody s_is_rising) (defScope s_is_rising) .none kV_is_rising dc_is_rising pm_is_rising an_is_rising (.ref c2) ct_is_rising), sl_is_rising⟩)
    (c_is_rising : PySem.W.codeIn K (.ref c2) "is_rising" = true)
    (k_is_rising : PySem.W.keepIn K (.ref f_is_rising) = true)
    (a_are_signs_of_face : PySem.W.nsIn K mainGlobals "are_signs_of_face" = some (some (.ref f_are_signs_of_face)))
    (l_are_signs_of_face : K.lookup f_are_signs_of_face = some ⟨oc_are_signs_of_face, od_are_signs_of_face, .func (PySem.W.fnOf "are_signs_of_face" "are_signs_of_face" (defArgs s_are_signs_of_face) (defBody s_are_signs_of_face) (defScope s_are_signs_of_face) .none kV_are_signs_of_face dc_are_signs_of_face pm_are_signs_of_face an_are_signs_of_face (.ref c3) ct_are_signs_of_face), sl_are_signs_of_face⟩)
    (c_are_signs_of_face : PySem.W.codeIn K (.ref c3) "are_signs_of_face" = true)
    (k_are_signs_of_face : PySem.W.keepIn K (.ref f_are_signs_of_face) = true)
    (a_having_faces : PySem.W.nsIn K mainGlobals "having_faces" = some (some (.ref f_having_faces)))
    (l_having_faces : K.lookup f_having_faces = some ⟨oc_having_faces, od_having_faces, .func (PySem.W.fnOf "having_faces" "having_faces" (defArgs s_having_faces) (defBody s_having_faces) (defScope s_having_faces) .none kV_having_faces dc_having_faces pm_having_faces an_having_faces (.ref c4) ct_having_faces), sl_having_faces⟩)
    (c_having_faces : PySem.W.codeIn K (.ref c4) "having_faces" = true)
    (k_having_faces : PySem.W.keepIn K (.ref f_having_faces) = true)
    (a_init : PySem.W.findIn K (.ref cC) "__init__" = some (some (.ref f_init)))
    (i_init : PySem.W.isFn K (.ref f_init) = true)
    (l_init : K.lookup f_init = some ⟨oc_init, od_init, .func (PySem.W.fnOf "__init__" "Case.__init__" (defArgs s_init) (defBody s_init) (defScope s_init) .none kV_init dc_init pm_init an_init cd_init ct_init), sl_init⟩)
    (c_init : PySem.W.codeIn K cd_init "Case.__init__" = true)
    (k_init : PySem.W.keepIn K (.ref f_init) = true)
    (a_facesM : PySem.W.findIn K (.ref cC) "faces" = some (some (.ref f_facesM)))
    (i_facesM : PySem.W.isFn K (.ref f_facesM) = true)
    (l_facesM : K.lookup f_facesM = some ⟨oc_facesM, od_facesM, .func (PySem.W.fnOf "faces" "Case.faces" (defArgs s_facesM) (defBody s_facesM) (defScope s_facesM) .none kV_facesM dc_facesM pm_facesM an_facesM cd_facesM ct_facesM), sl_facesM⟩)
    (c_facesM : PySem.W.codeIn K cd_facesM "Case.faces" = true)
    (k_facesM : PySem.W.keepIn K (.ref f_facesM) = true)
    (pg : PySem.W.plainGet K cC Str.empty = true)
    (hd : PySem.W.hasDictIn K cC = true)
    (po : PySem.W.plainOver K cC = true)
    (sa : PySem.W.findIn K (.ref cC) "__setattr__" = some (some (.builtin "object.__setattr__")))
    (mk : PySem.W.makesIn K cC = true)
    (kc : PySem.W.keepIn K (.ref cC) = true)
    (nf : PySem.W.findIn K (.ref cC) "_faces" = some none)
    (z_len : PySem.W.nsIn K mainGlobals "len" = some none)
    (z_range : PySem.W.nsIn K mainGlobals "range" = some none)
    (z_list : PySem.W.nsIn K mainGlobals "list" = some none)
    (z_tuple : PySem.W.nsIn K mainGlobals "tuple" = some none)
    (z_int : PySem.W.nsIn K mainGlobals "int" = some none)
    (z_str : PySem.W.nsIn K mainGlobals "str" = some none)
    (z_bool : PySem.W.nsIn K mainGlobals "bool" = some none)
    (z_sorted : PySem.W.nsIn K mainGlobals "sorted" = some none)
    (z_set : PySem.W.nsIn K mainGlobals "set" = some none)
    (z_isinstance : PySem.W.nsIn K mainGlobals "isinstance" = some none)
    (z_min : PySem.W.nsIn K mainGlobals "min" = some none)
    (z_max : PySem.W.nsIn K mainGlobals "max" = some none)
    (z_sum : PySem.W.nsIn K mainGlobals "sum" = some none)
    (z_any : PySem.W.nsIn K mainGlobals "any" = some none)
    (z_all : PySem.W.nsIn K mainGlobals "all" = some none)
    (z_enumerate : PySem.W.nsIn K mainGlobals "enumerate" = some none)
    (z_zip : PySem.W.nsIn K mainGlobals "zip" = some none)
    (z_reversed : PySem.W.nsIn K mainGlobals "reversed" = some none)
    (z_dict : PySem.W.nsIn K mainGlobals "dict" = some none)
    (m_last : PySem.W.nsIn K mainGlobals "LAST_SIGN" = some (some (.int 999 u_last)))
    (m_first : PySem.W.nsIn K mainGlobals "FIRST_MARK" = some (some (.int 800 u_first)))
    (m_faces : PySem.W.nsIn K mainGlobals "MOST_FACES" = some (some (.int 8 u_faces)))
    (m_name : PySem.W.nsIn K mainGlobals "LONGEST_NAME" = some (some (.int 8 u_name)))
    (m_rank : PySem.W.nsIn K mainGlobals "HIGHEST_RANK" = some (some (.int 9 u_rank)))
    (m_signs : PySem.W.nsIn K mainGlobals "MOST_SIGNS" = some (some (.int 100 u_signs)))
    (m_small : PySem.W.nsIn K mainGlobals "SMALL_LETTERS" = some (some (.str abc u_small))) :
    ∃ (fd : FuncData) (cs : List (Addr × Addr)), (∀ p ∈ cs, PySem.W.CodeHd h p.1 p.2 ∧ h.get? p.2 = some { cls := .none, data := .fields #[] }) ∧ (∀ p ∈ cs, K.lookup p.2 = none) ∧ (∀ (s : Shared) (v : Value), BindsTo s fd ⟨[v], []⟩ [("_law_script", v)]) ∧
      ∀ base : Heap, K.In base → base.Ns mainGlobals mg → (∀ p ∈ cs, TabB base mg p.1 p.2) → FnOk l.prog w K mg base CX0 8 fa fd ["_law_script"] (sp2_law K (cs.map (·.2))) := by
  have e := hfa.symm.trans (PySem.W.mg_of X G a_law)
  cases e
  have T : Bi mg := ⟨PySem.W.mg_none_of X G z_len, PySem.W.mg_none_of X G z_range, PySem.W.mg_none_of X G z_list, PySem.W.mg_none_of X G z_tuple, PySem.W.mg_none_of X G z_int, PySem.W.mg_none_of X G z_str, PySem.W.mg_none_of X G z_bool, PySem.W.mg_none_of X G z_sorted, PySem.W.mg_none_of X G z_set, PySem.W.mg_none_of X G z_isinstance, PySem.W.mg_none_of X G z_min, PySem.W.mg_none_of X G z_max, PySem.W.mg_none_of X G z_sum, PySem.W.mg_none_of X G z_any, PySem.W.mg_none_of X G z_all, PySem.W.mg_none_of X G z_enumerate, PySem.W.mg_none_of X G z_zip, PySem.W.mg_none_of X G z_reversed, PySem.W.mg_none_of X G z_dict⟩
  have O : Tops K mg ⟨c1, p1, c2, p2, c3, p3, c4, p4⟩ := ⟨top_mk X G a_is_sign l_is_sign c_is_sign k_is_sign, top_mk X G a_is_letter l_is_letter c_is_letter k_is_letter, top_mk X G a_refuse_no_text l_refuse_no_text c_refuse_no_text k_refuse_no_text, top_mk X G a_parted l_parted c_parted k_parted, top_mk X G a_is_face l_is_face c_is_face k_is_face, top_mk X G a_first_bad_face l_first_bad_face c_first_bad_face k_first_bad_face, top_mk X G a_refuse_no_case l_refuse_no_case c_refuse_no_case k_refuse_no_case, top_mk X G a_choices l_choices c_choices k_choices, top_mk X G a_missing l_missing c_missing k_missing, top_mk X G a_tellable l_tellable c_tellable k_tellable, top_mk X G a_longer l_longer c_longer k_longer, top_mk X G a_least_longer l_least_longer c_least_longer k_least_longer, top_mk X G a_least_row l_least_row c_least_row k_least_row, top_mk X G a_shown l_shown c_shown k_shown, top_mk X G a_changes l_changes c_changes k_changes, top_mk X G a_l_taken l_l_taken c_l_taken k_l_taken, top_mk X G a_l_pool l_l_pool c_l_pool k_l_pool, top_mk X G a_l_names l_l_names c_l_names k_l_names, top_mk X G a_l_faces l_l_faces c_l_faces k_l_faces, top_mk X G a_l_signs l_l_signs c_l_signs k_l_signs, top_mk X G a_l_clusters l_l_clusters c_l_clusters k_l_clusters, top_mk X G a_l_having l_l_having c_l_having k_l_having, topc_mk X G a_is_name l_is_name c_is_name k_is_name, topc_mk X G a_is_rising l_is_rising c_is_rising k_is_rising, topc_mk X G a_are_signs_of_face l_are_signs_of_face c_are_signs_of_face k_are_signs_of_face, topc_mk X G a_having_faces l_having_faces c_having_faces k_having_faces⟩
  have M : Ms mg := ⟨⟨_, PySem.W.mg_of X G m_last⟩, ⟨_, PySem.W.mg_of X G m_first⟩, ⟨_, PySem.W.mg_of X G m_faces⟩, ⟨_, PySem.W.mg_of X G m_name⟩, ⟨_, PySem.W.mg_of X G m_rank⟩, ⟨_, PySem.W.mg_of X G m_signs⟩, ⟨_, PySem.W.mg_of X G m_small⟩⟩
  have C : CaseT K mg cC f_init f_facesM _ _ := ⟨PySem.W.mg_of X G aC, ⟨pg, hd, po, sa⟩, nf, ⟨mk, a_init, i_init, kc⟩, fun_mk (st := s_init) l_init c_init k_init, fun_mk (st := s_facesM) l_facesM c_facesM k_facesM, ⟨a_facesM, i_facesM, k_facesM⟩⟩
  refine ⟨_, [(c1, p1), (c2, p2), (c3, p3), (c4, p4)], fun p hp => ?_, fun p hp => ?_, fun s v => .of_eq rfl, fun base _ _ tb => ok_law (fun_mk (st := s_law) l_law c_law k_law) T O M ⟨tb (c1, p1) (by simp), tb (c2, p2) (by simp), tb (c3, p3) (by simp), tb (c4, p4) (by simp)⟩ C⟩
  · simp only [List.mem_cons, List.not_mem_nil, or_false] at hp
    rcases hp with rfl | rfl | rfl | rfl
    · exact tab _ _ _ (by simp) t_1
    · exact tab _ _ _ (by simp) t_2
    · exact tab _ _ _ (by simp) t_3
    · exact tab _ _ _ (by simp) t_4
  · simp only [List.mem_cons, List.not_mem_nil, or_false] at hp
    rcases hp with rfl | rfl | rfl | rfl <;> assumption
theorem k12_sp {K : PySem.W.Frag} {H : Hp} {a : Addr} {ns : List Int} {tb : List Addr} (o : OnlyT tb H) (t : ∀ b ∈ tb, H b = some (.tbl #[])) (h : SqL K H a (ns.map V.int)) : sp2_law K tb [.ref a] H (fun v _ => v = .bl true) (fun _ _ _ => False) := by
  refine ⟨a, ns, rfl, ?_, fun b hb => ⟨#[], t b hb, trivial⟩, fun _ => rfl⟩
  rcases h with (h | ⟨o', h⟩) | h
  · rcases o a with z | z | ⟨o', xs, z⟩
    · rw [z] at h; cases h
    · rw [t a z] at h; cases h
    · rw [z] at h; cases h
  · exact .inl ⟨o', h⟩
  · exact .inr (.inr h)
theorem walk_gen {l : PySem.W.OpenLaw} {n k : Nat} {q : Program} {loose : List Str} {XP : (Str → Option Value) → Heap → Prop} {YP : World → Heap → Prop} {d : DefRec} {K : Params → PySem.W.Frag} {x : Str} {sp : PySem.W.Frag → List Addr → Sp} (names : List Str)
    (hn : l.most = some n) (hn2 : n ≤ sizeLine) (hdf : d.params.defaults = []) (hr : Room k callerA) (hrec : ∀ x ∈ names, ((recsOf q).any fun e => e.name == x) = true) (hY : ∀ (w : World) (h : Heap), YP w h → (K w.params).In h)
    (hsp : ∀ (K : PySem.W.Frag) (H : Hp) (a : Addr) (ns : List Int) (tb : List Addr), OnlyT tb H → (∀ b ∈ tb, H b = some (.tbl #[])) → SqL K H a (ns.map V.int) → sp K tb [.ref a] H (fun v _ => v = .bl true) (fun _ _ _ => False))
    (F : ∀ (w : World) (mg : Str → Option Value) (fa : Addr) (h : Heap), (K w.params).In h → h.Ns mainGlobals mg → mg d.name = some (.ref fa) →
      (∀ (x : Str) (c p : Addr), x ∈ names → PySem.W.tabIn (K w.params) x = some (c, p) → PySem.W.CodeHd h c p ∧ h.get? p = some { cls := .none, data := .fields #[] }) →
      ∃ (fd : FuncData) (cs : List (Addr × Addr)), (∀ p ∈ cs, PySem.W.CodeHd h p.1 p.2 ∧ h.get? p.2 = some { cls := .none, data := .fields #[] }) ∧ (∀ p ∈ cs, (K w.params).lookup p.2 = none) ∧ (∀ (s : Shared) (v : Value), BindsTo s fd ⟨[v], []⟩ [(x, v)]) ∧
        ∀ base : Heap, (K w.params).In base → base.Ns mainGlobals mg → (∀ p ∈ cs, TabB base mg p.1 p.2) → FnOk l.prog w (K w.params) mg base CX0 k fa fd [x] (sp (K w.params) (cs.map (·.2)))) :
    PySem.W.WalkO q loose XP YP l.row.toRowW d [] (fun f vs => PySem.call f vs) := by
  refine Att.attach_callB hn hdf fun w s₀ s₁ mg mb fa o pm cd doc a vs ns G Y ho hd hcd hmg hobj hints hlen hbits hg => ?_
  have KX := hY w _ Y
  obtain ⟨fd, cs, hT, nT, hb, hF⟩ := F w mg fa _ KX G.T.g hmg fun x c p hx ht => by
    obtain ⟨e, he, hx2⟩ := List.any_eq_true.1 (hrec x hx)
    cases hf : (recsOf q).find? (fun e => e.name == x) with
    | none => exact absurd hx2 (List.find?_eq_none.1 hf e he)
    | some d' => exact PySem.W.tab_of G.T KX hf ht
  exact call_tabs KX G.T.g G.T.b G.T.builtins G.T.nolimit hg hT nT G.T.bmain hobj hints (Nat.le_trans hlen hn2) hr hF hb (fun H oH tH sH => hsp _ H a ns _ oH (fun b hb => let ⟨p, hp, e⟩ := List.mem_map.1 hb; e ▸ tH p hp) sH) fun H e s' z => z
end FF
set_option Elab.async false
set_option maxRecDepth 100000
open PySem PySem.W PyProof.Rows in
set_option maxRecDepth 100000 in
set_option maxHeartbeats 0 in
theorem PySem.Challenge.cw_fontfall_k12_whole_more_signs_less_chang_holds : PySem.Challenge.rw_fontfall_k12_whole_more_signs_less_chang.Holds := by
  w_on; o_law; k_head; (case hw => w_witness2)
  k_fill
  refine FF.walk_gen (l := PySem.Challenge.rw_fontfall_k12_whole_more_signs_less_chang) (n := 63) (k := 8) (x := "_law_script") (sp := FF.sp2_law) ["is_name", "is_rising", "are_signs_of_face", "having_faces"] rfl (by decide) rfl ⟨rfl, by decide, by decide⟩ ?R (fun w h Y => PySem.W.kIn_of Y) (fun K H a ns tb => FF.k12_sp) ?F
  case R => decide +kernel
  case F =>
    intro w mg fa h KX G hmg tab
    refine' FF.k12_all KX G hmg tab ?aC ?t_1 ?n_1 ?t_2 ?n_2 ?t_3 ?n_3 ?t_4 ?n_4 ?a_is_sign ?l_is_sign ?c_is_sign ?k_is_sign ?a_is_letter ?l_is_letter ?c_is_letter ?k_is_letter ?a_refuse_no_text ?l_refuse_no_text ?c_refuse_no_text ?k_refuse_no_text ?a_parted ?l_parted ?c_parted ?k_parted ?a_is_face ?l_is_face ?c_is_face ?k_is_face ?a_first_bad_face ?l_first_bad_face ?c_first_bad_face ?k_first_bad_face ?a_refuse_no_case ?l_refuse_no_case ?c_refuse_no_case ?k_refuse_no_case ?a_choices ?l_choices ?c_choices ?k_choices ?a_missing ?l_missing ?c_missing ?k_missing ?a_tellable ?l_tellable ?c_tellable ?k_tellable ?a_longer ?l_longer ?c_longer ?k_longer ?a_least_longer ?l_least_longer ?c_least_longer ?k_least_longer ?a_least_row ?l_least_row ?c_least_row ?k_least_row ?a_shown ?l_shown ?c_shown ?k_shown ?a_changes ?l_changes ?c_changes ?k_changes ?a_l_taken ?l_l_taken ?c_l_taken ?k_l_taken ?a_l_pool ?l_l_pool ?c_l_pool ?k_l_pool ?a_l_names ?l_l_names ?c_l_names ?k_l_names ?a_l_faces ?l_l_faces ?c_l_faces ?k_l_faces ?a_l_signs ?l_l_signs ?c_l_signs ?k_l_signs ?a_l_clusters ?l_l_clusters ?c_l_clusters ?k_l_clusters ?a_l_having ?l_l_having ?c_l_having ?k_l_having ?a_law ?l_law ?c_law ?k_law ?a_is_name ?l_is_name ?c_is_name ?k_is_name ?a_is_rising ?l_is_rising ?c_is_rising ?k_is_rising ?a_are_signs_of_face ?l_are_signs_of_face ?c_are_signs_of_face ?k_are_signs_of_face ?a_having_faces ?l_having_faces ?c_having_faces ?k_having_faces ?a_init ?i_init ?l_init ?c_init ?k_init ?a_facesM ?i_facesM ?l_facesM ?c_facesM ?k_facesM ?pg ?hd ?po ?sa ?mk ?kc ?nf ?z_len ?z_range ?z_list ?z_tuple ?z_int ?z_str ?z_bool ?z_sorted ?z_set ?z_isinstance ?z_min ?z_max ?z_sum ?z_any ?z_all ?z_enumerate ?z_zip ?z_reversed ?z_dict ?m_last ?m_first ?m_faces ?m_name ?m_rank ?m_signs ?m_small
    (case aC => first | k_is | rfl)
    (case t_1 => first | k_is | rfl)
    (case n_1 => first | k_is | rfl)
    (case t_2 => first | k_is | rfl)
    (case n_2 => first | k_is | rfl)
    (case t_3 => first | k_is | rfl)
    (case n_3 => first | k_is | rfl)
    (case t_4 => first | k_is | rfl)
    (case n_4 => first | k_is | rfl)
    (case a_is_sign => first | k_is | rfl)
    (case l_is_sign => first | k_is | rfl)
    (case c_is_sign => first | k_is | rfl)
    (case k_is_sign => first | k_is | rfl)
    (case a_is_letter => first | k_is | rfl)
    (case l_is_letter => first | k_is | rfl)
    (case c_is_letter => first | k_is | rfl)
    (case k_is_letter => first | k_is | rfl)
    (case a_refuse_no_text => first | k_is | rfl)
    (case l_refuse_no_text => first | k_is | rfl)
    (case c_refuse_no_text => first | k_is | rfl)
    (case k_refuse_no_text => first | k_is | rfl)
    (case a_parted => first | k_is | rfl)
    (case l_parted => first | k_is | rfl)
    (case c_parted => first | k_is | rfl)
    (case k_parted => first | k_is | rfl)
    (case a_is_face => first | k_is | rfl)
    (case l_is_face => first | k_is | rfl)
    (case c_is_face => first | k_is | rfl)
    (case k_is_face => first | k_is | rfl)
    (case a_first_bad_face => first | k_is | rfl)
    (case l_first_bad_face => first | k_is | rfl)
    (case c_first_bad_face => first | k_is | rfl)
    (case k_first_bad_face => first | k_is | rfl)
    (case a_refuse_no_case => first | k_is | rfl)
    (case l_refuse_no_case => first | k_is | rfl)
    (case c_refuse_no_case => first | k_is | rfl)
    (case k_refuse_no_case => first | k_is | rfl)
    (case a_choices => first | k_is | rfl)
    (case l_choices => first | k_is | rfl)
    (case c_choices => first | k_is | rfl)
    (case k_choices => first | k_is | rfl)
    (case a_missing => first | k_is | rfl)
    (case l_missing => first | k_is | rfl)
    (case c_missing => first | k_is | rfl)
    (case k_missing => first | k_is | rfl)
    (case a_tellable => first | k_is | rfl)
    (case l_tellable => first | k_is | rfl)
    (case c_tellable => first | k_is | rfl)
    (case k_tellable => first | k_is | rfl)
    (case a_longer => first | k_is | rfl)
    (case l_longer => first | k_is | rfl)
    (case c_longer => first | k_is | rfl)
    (case k_longer => first | k_is | rfl)
    (case a_least_longer => first | k_is | rfl)
    (case l_least_longer => first | k_is | rfl)
    (case c_least_longer => first | k_is | rfl)
    (case k_least_longer => first | k_is | rfl)
    (case a_least_row => first | k_is | rfl)
    (case l_least_row => first | k_is | rfl)
    (case c_least_row => first | k_is | rfl)
    (case k_least_row => first | k_is | rfl)
    (case a_shown => first | k_is | rfl)
    (case l_shown => first | k_is | rfl)
    (case c_shown => first | k_is | rfl)
    (case k_shown => first | k_is | rfl)
    (case a_changes => first | k_is | rfl)
    (case l_changes => first | k_is | rfl)
    (case c_changes => first | k_is | rfl)
    (case k_changes => first | k_is | rfl)
    (case a_l_taken => first | k_is | rfl)
    (case l_l_taken => first | k_is | rfl)
    (case c_l_taken => first | k_is | rfl)
    (case k_l_taken => first | k_is | rfl)
    (case a_l_pool => first | k_is | rfl)
    (case l_l_pool => first | k_is | rfl)
    (case c_l_pool => first | k_is | rfl)
    (case k_l_pool => first | k_is | rfl)
    (case a_l_names => first | k_is | rfl)
    (case l_l_names => first | k_is | rfl)
    (case c_l_names => first | k_is | rfl)
    (case k_l_names => first | k_is | rfl)
    (case a_l_faces => first | k_is | rfl)
    (case l_l_faces => first | k_is | rfl)
    (case c_l_faces => first | k_is | rfl)
    (case k_l_faces => first | k_is | rfl)
    (case a_l_signs => first | k_is | rfl)
    (case l_l_signs => first | k_is | rfl)
    (case c_l_signs => first | k_is | rfl)
    (case k_l_signs => first | k_is | rfl)
    (case a_l_clusters => first | k_is | rfl)
    (case l_l_clusters => first | k_is | rfl)
    (case c_l_clusters => first | k_is | rfl)
    (case k_l_clusters => first | k_is | rfl)
    (case a_l_having => first | k_is | rfl)
    (case l_l_having => first | k_is | rfl)
    (case c_l_having => first | k_is | rfl)
    (case k_l_having => first | k_is | rfl)
    (case a_law => first | k_is | rfl)
    (case l_law => first | k_is | rfl)
    (case c_law => first | k_is | rfl)
    (case k_law => first | k_is | rfl)
    (case a_is_name => first | k_is | rfl)
    (case l_is_name => first | k_is | rfl)
    (case c_is_name => first | k_is | rfl)
    (case k_is_name => first | k_is | rfl)
    (case a_is_rising => first | k_is | rfl)
    (case l_is_rising => first | k_is | rfl)
    (case c_is_rising => first | k_is | rfl)
    (case k_is_rising => first | k_is | rfl)
    (case a_are_signs_of_face => first | k_is | rfl)
    (case l_are_signs_of_face => first | k_is | rfl)
    (case c_are_signs_of_face => first | k_is | rfl)
    (case k_are_signs_of_face => first | k_is | rfl)
    (case a_having_faces => first | k_is | rfl)
    (case l_having_faces => first | k_is | rfl)
    (case c_having_faces => first | k_is | rfl)
    (case k_having_faces => first | k_is | rfl)
    (case a_init => first | k_is | rfl)
    (case i_init => first | k_is | rfl)
    (case l_init => first | k_is | rfl)
    (case c_init => first | k_is | rfl)
    (case k_init => first | k_is | rfl)
    (case a_facesM => first | k_is | rfl)
    (case i_facesM => first | k_is | rfl)
    (case l_facesM => first | k_is | rfl)
    (case c_facesM => first | k_is | rfl)
    (case k_facesM => first | k_is | rfl)
    (case pg => first | k_is | rfl)
    (case hd => first | k_is | rfl)
    (case po => first | k_is | rfl)
    (case sa => first | k_is | rfl)
    (case mk => first | k_is | rfl)
    (case kc => first | k_is | rfl)
    (case nf => first | k_is | rfl)
    (case z_len => first | k_is | rfl)
    (case z_range => first | k_is | rfl)
    (case z_list => first | k_is | rfl)
    (case z_tuple => first | k_is | rfl)
    (case z_int => first | k_is | rfl)
    (case z_str => first | k_is | rfl)
    (case z_bool => first | k_is | rfl)
    (case z_sorted => first | k_is | rfl)
    (case z_set => first | k_is | rfl)
    (case z_isinstance => first | k_is | rfl)
    (case z_min => first | k_is | rfl)
    (case z_max => first | k_is | rfl)
    (case z_sum => first | k_is | rfl)
    (case z_any => first | k_is | rfl)
    (case z_all => first | k_is | rfl)
    (case z_enumerate => first | k_is | rfl)
    (case z_zip => first | k_is | rfl)
    (case z_reversed => first | k_is | rfl)
    (case z_dict => first | k_is | rfl)
    (case m_last => first | k_is | rfl)
    (case m_first => first | k_is | rfl)
    (case m_faces => first | k_is | rfl)
    (case m_name => first | k_is | rfl)
    (case m_rank => first | k_is | rfl)
    (case m_signs => first | k_is | rfl)
    (case m_small => first | k_is | rfl)
