import PyProof.Rows.All
import Wide.All
import OpenK.AllK
import Wide.FinOn
import HandS.Base
import HandS.Call
import HandS.List
import HandS.Comp
import HandS.Dict
import HandS.Iter
import HandS.Text
import HandS.Words
import HandS.Exc
import HandS.ExcOwn
import HandS.Lambda
import HandS.Evl
import HandS.ExcIs
import HandS.TupAny
import HandS.TupMul
import HandS.IsInst
import PyProof.Rows.NestShow
import HandS.Zip
import KE.KExcIs
import HandS.WordsExc
import HandS.EndTab
import HandS.MakeKwOnly
import KE.KDictZip
import KE.KDictItemsList
import HandS.ExcValue
import HandS.GenList
import HandS.HeadWalk
import HandS.HeadHook4
import HandS.HeadNt
import HandS.Head2
import HandS.HeadEnd
import KE.GoesEnum
import PyProof.EnumMake
import HandS.ExcInit
import HandS.ExcField
import HandS.CallLocal
import HandS.Style
import HandS.SortInts
import PyProof.NeKinds
import HandS.TupSets
import HandS.Set
import PySem.Challenge.RW_oncefound_k03_cells_valleys_and_matters
set_option Elab.async false
set_option linter.all false
set_option maxRecDepth 100000
set_option maxHeartbeats 2222222
/-! data, and what holds it in the heap -/
namespace DL
open L2 PySem PySem.Spec PyProof.Rows
open Evl (Ex ex_l ex_t sz_of)

inductive D where
  | non | bl (b : Bool) | int (i : Int) | str (x : Str)
  | lst (xs : List D) | tup (xs : List D)
  | dic (ks : List Key) (ds : List D)
  | ins (C : Addr) (ns : List Str) (ds : List D)
  | exc (C : Addr) (ns : List Str) (ds : List D)
  | fnv (f : Addr)

/-- an exception object that was caught -/
def ExT (C : Addr) (d : Option Addr) (a : Addr) : HO := .ext fun h => ∃ (oe : Obj) (vs : Array Value), h.get? a = some oe ∧ Zc (.ref C) d oe ∧ oe.data = .fields vs

/-- an own class is no built-in one -/
def NoTy (K : PySem.W.Frag) (C : Addr) : Prop := ∀ t ∈ ["int", "bool", "str", "tuple", "list", "dict"], PySem.W.kitOne K (.ref C) (.type t) = some false
/-- what the class at C must say, so that its instances may be asked -/
structure InC (K : PySem.W.Frag) (C : Addr) : Prop where
  cl : Cls K C
  ha : PySem.W.findIn K (.ref C) "__class__" = some (some (.builtin "object.__class__"))
  hn : PySem.W.specialIn K (.builtin "object.__class__") "__get__" = some (some (.builtin "getset_descriptor.__get__"))
  ht : PySem.W.takesIn K (.builtin "object.__class__") = some true
  hm : PySem.W.mroIn K C (.type "object") = some true
  nt : NoTy K C

mutual
inductive Dn (K : PySem.W.Frag) (H : Hp) : V → D → Prop
  | non : Dn K H .non .non
  | bl (b : Bool) : Dn K H (.bl b) (.bl b)
  | int (i : Int) : Dn K H (.int i) (.int i)
  | str (x : Str) : Dn K H (.str x) (.str x)
  | fnv (f : Addr) : Dn K H (.ref f) (.fnv f)
  | lst {a : Addr} {xs : List V} {ds : List D} : SqL K H a xs → DnA K H xs ds → Dn K H (.ref a) (.lst ds)
  | tup {a : Addr} {xs : List V} {ds : List D} : SqT K H a xs → DnA K H xs ds → Dn K H (.ref a) (.tup ds)
  | dic {a : Addr} {kvs : List (Key × V)} {ks : List Key} {ds : List D} : H a = some (.dK kvs) → kvs.map (·.1) = ks → DnA K H (kvs.map (·.2)) ds → Dn K H (.ref a) (.dic ks ds)
  | ins {a C dx : Addr} {fs : List (Str × V)} {ns : List Str} {ds : List D} : InC K C → H a = some (.ins C dx fs) → fs.map (·.1) = ns → DnA K H (fs.map (·.2)) ds → Dn K H (.ref a) (.ins C ns ds)
  | exc {a C : Addr} {d : Option Addr} {fs : List (Str × V)} {ns : List Str} {ds : List D} : ExcC K C → NoTy K C → H a = some (ExT C d a) → (d = none ∧ fs = [] ∨ ∃ dd, d = some dd ∧ fs ≠ [] ∧ H dd = some (.xd fs)) → fs.map (·.1) = ns → DnA K H (fs.map (·.2)) ds → Dn K H (.ref a) (.exc C ns ds)
inductive DnA (K : PySem.W.Frag) (H : Hp) : List V → List D → Prop
  | nil : DnA K H [] []
  | cons {v : V} {vs : List V} {d : D} {ds : List D} : Dn K H v d → DnA K H vs ds → DnA K H (v :: vs) (d :: ds)
end

section
variable {K : PySem.W.Frag} {H H' : Hp}
mutual
theorem Dn.mono (e : Ex H H') : ∀ (d : D) {v : V}, Dn K H v d → Dn K H' v d
  | .non, _, h => by cases h; exact .non
  | .bl b, _, h => by cases h; exact .bl b
  | .int i, _, h => by cases h; exact .int i
  | .str x, _, h => by cases h; exact .str x
  | .fnv f, _, h => by cases h; exact .fnv f
  | .lst ds, _, h => by
    cases h with
    | lst h1 h2 => exact .lst (ex_l e h1) (DnA.mono e ds h2)
  | .tup ds, _, h => by
    cases h with
    | tup h1 h2 => exact .tup (ex_t e h1) (DnA.mono e ds h2)
  | .dic ks ds, _, h => by
    cases h with
    | dic h1 h2 h3 => exact .dic (e _ _ h1) h2 (DnA.mono e ds h3)
  | .ins C ns ds, _, h => by
    cases h with
    | ins hc h1 h2 h3 => exact .ins hc (e _ _ h1) h2 (DnA.mono e ds h3)
  | .exc C ns ds, _, h => by
    cases h with
    | exc hc ht h1 h0 h2 h3 =>
      refine .exc hc ht (e _ _ h1) ?_ h2 (DnA.mono e ds h3)
      rcases h0 with h0 | ⟨dd, h0, hne, h4⟩
      · exact .inl h0
      · exact .inr ⟨dd, h0, hne, e _ _ h4⟩
theorem DnA.mono (e : Ex H H') : ∀ (ds : List D) {vs : List V}, DnA K H vs ds → DnA K H' vs ds
  | [], _, h => by cases h; exact .nil
  | d :: ds, _, h => by
    cases h with
    | cons h1 h2 => exact .cons (Dn.mono e d h1) (DnA.mono e ds h2)
end
theorem Dn.up (e : Ex H H') {v : V} {d : D} (h : Dn K H v d) : Dn K H' v d := Dn.mono e d h
theorem DnA.up (e : Ex H H') {vs : List V} {ds : List D} (h : DnA K H vs ds) : DnA K H' vs ds := DnA.mono e ds h
theorem DnA.len : ∀ {vs : List V} {ds : List D}, DnA K H vs ds → vs.length = ds.length
  | [], _, h => by cases h; rfl
  | _ :: _, _, h => by
    cases h with
    | cons h1 h2 => rw [List.length_cons, List.length_cons, DnA.len h2]
theorem DnA.get : ∀ {vs : List V} {ds : List D} {i : Nat} {d : D}, DnA K H vs ds → ds[i]? = some d → ∃ v, vs[i]? = some v ∧ Dn K H v d
  | [], _, i, d, h, e => by cases h; simp at e
  | v :: vs, _, 0, d, h, e => by
    cases h with
    | cons h1 h2 =>
      simp at e
      subst e
      exact ⟨v, rfl, h1⟩
  | v :: vs, _, i + 1, d, h, e => by
    cases h with
    | cons h1 h2 =>
      obtain ⟨w, e1, e2⟩ := DnA.get (i := i) h2 (by simpa using e)
      exact ⟨w, by simpa using e1, e2⟩
theorem DnA.getV : ∀ {vs : List V} {ds : List D} {i : Nat} {v : V}, DnA K H vs ds → vs[i]? = some v → ∃ d, ds[i]? = some d ∧ Dn K H v d
  | [], _, i, d, h, e => by simp at e
  | v :: vs, _, 0, d, h, e => by
    cases h with
    | cons h1 h2 =>
      simp at e
      subst e
      exact ⟨_, rfl, h1⟩
  | v :: vs, _, i + 1, d, h, e => by
    cases h with
    | cons h1 h2 =>
      obtain ⟨w, e1, e2⟩ := DnA.getV (i := i) h2 (by simpa using e)
      exact ⟨w, by simpa using e1, e2⟩
theorem DnA.app : ∀ {vs us : List V} {ds es : List D}, DnA K H vs ds → DnA K H us es → DnA K H (vs ++ us) (ds ++ es)
  | [], _, _, _, h, g => by cases h; exact g
  | _ :: _, _, _, _, h, g => by
    cases h with
    | cons h1 h2 => exact .cons h1 (DnA.app h2 g)
theorem DnA.take : ∀ {vs : List V} {ds : List D} (n : Nat), DnA K H vs ds → DnA K H (vs.take n) (ds.take n)
  | _, _, 0, _ => by simp; exact .nil
  | [], _, n + 1, h => by cases h; exact .nil
  | _ :: _, _, n + 1, h => by
    cases h with
    | cons h1 h2 => exact .cons h1 (DnA.take n h2)
theorem DnA.drop : ∀ {vs : List V} {ds : List D} (n : Nat), DnA K H vs ds → DnA K H (vs.drop n) (ds.drop n)
  | _, _, 0, h => by simpa using h
  | [], _, n + 1, h => by cases h; exact .nil
  | _ :: _, _, n + 1, h => by
    cases h with
    | cons h1 h2 => exact DnA.drop n h2
theorem DnA.one {v : V} {d : D} (h : Dn K H v d) : DnA K H [v] [d] := .cons h .nil
theorem DnA.ints : ∀ (ns : List Int), DnA K H (ns.map V.int) (ns.map D.int)
  | [] => .nil
  | n :: ns => .cons (.int n) (DnA.ints ns)
end

/-! ### the source of draws, the tables of code, what is frozen -/
abbrev Tb := List (Addr × Str)
/-- the two objects that a draw changes -/
structure SA where
  a : Addr
  l : Addr
  c : Addr
  cs : List Int
abbrev LIM : Nat := 2 ^ 40
def kLarge : Key := .inr "large"
def kCells : Key := .inr "cells"
def kLeft : Key := .inr "left"
def kTurn : Key := .inr "turn"
/-- the source of draws stands; at most n draws were made -/
def StOk (K : PySem.W.Frag) (S : SA) (Hb H : Hp) (n : Nat) : Prop :=
  Hb S.a = none ∧ Hb S.l = none ∧ ∃ (ls cs : List Int) (m : Int) (t : Nat), S.c ≠ S.l ∧ S.c ≠ S.a ∧ S.a ≠ S.l ∧
    H S.a = some (.dK [(kLarge, .ref S.l), (kCells, .ref S.c), (kLeft, .int m), (kTurn, .int t)]) ∧ H S.l = some (.lst (ls.map V.int)) ∧ Hb S.c = some (.lst (cs.map V.int)) ∧
    (∀ x ∈ ls, 0 ≤ x) ∧ (∀ x ∈ cs, 0 ≤ x) ∧ 0 ≤ m ∧ t ≤ n ∧ ls.length ≤ 63 ∧ cs.length ≤ 63 ∧ cs = S.cs

/-- nothing lies at p, or a table of code -/
def Fresh (H : Hp) (p : Addr) : Prop := ∀ o, H p = some o → ∃ ps, o = .tbl ps
theorem fresh_none {H : Hp} {p : Addr} (h : H p = none) : Fresh H p := fun o e => by rw [h] at e; cases e
/-- an object that is no table of code -/
def Obn (H : Hp) (p : Addr) : Prop := ∃ o, H p = some o ∧ ∀ ps, o ≠ .tbl ps
theorem Fresh.ne {H : Hp} {p b : Addr} {o : HO} (f : Fresh H p) (h : H b = some o) (ho : ∀ ps, o ≠ .tbl ps) : b ≠ p := fun e => by
  subst e
  obtain ⟨ps, z⟩ := f _ h
  exact ho ps z
theorem Obn.ne {H : Hp} {p b : Addr} (w : Obn H b) (f : Fresh H p) : p ≠ b := by
  obtain ⟨o, h, ho⟩ := w
  exact (f.ne h ho).symm
theorem Obn.upd {H : Hp} {p b : Addr} {o : HO} (w : Obn H b) (ho : ∀ ps, o ≠ .tbl ps) : Obn (L2.upd H p o) b := by
  obtain ⟨u, h, hu⟩ := w
  by_cases e : b = p
  · exact ⟨o, by rw [e, upd_same], ho⟩
  · exact ⟨u, by rw [upd_ne e]; exact h, hu⟩
structure World (T : Tb) (S : SA) (Hb H : Hp) : Prop where
  ex : Ex Hb H
  tabs : LamX.Tabs T H
  tb : ∀ p ∈ T, Hb p.1 = none
  sa : Obn H S.a
  sl : Obn H S.l
  sc : Obn H S.c
  nt : ∀ b ps, Hb b ≠ some (.tbl ps)
theorem nt_upd {Hb : Hp} {p : Addr} {o : HO} (h : ∀ b ps, Hb b ≠ some (.tbl ps)) (ho : ∀ ps, o ≠ .tbl ps) : ∀ b ps, upd Hb p o b ≠ some (.tbl ps) := fun b ps z => by
  by_cases e : b = p
  · rw [e, upd_same] at z
    exact ho ps (Option.some.inj z)
  · rw [upd_ne e] at z
    exact h b ps z
/-- a step of the run: what is frozen stays and may grow, the source of draws stands, what is no one's business stays -/
structure Stp (K : PySem.W.Frag) (T : Tb) (S : SA) (Hb H : Hp) (n : Nat) (Hb' H' : Hp) (n' : Nat) : Prop where
  ex : Ex Hb Hb'
  wd : World T S Hb' H'
  st : StOk K S Hb H n → StOk K S Hb' H' n'
  own : ∀ p o, H p = some o → Hb p = none → p ≠ S.a → p ≠ S.l → (∀ ps, o ≠ .tbl ps) → H' p = some o ∧ Hb' p = none
  dm : ∀ p, Fresh H' p → Fresh H p
theorem dm_upd {H : Hp} {p : Addr} {o : HO} (ho : ∀ ps, o ≠ .tbl ps) : ∀ q, Fresh (upd H p o) q → Fresh H q := fun q h u e => by
  by_cases z : q = p
  · obtain ⟨ps, y⟩ := h o (by rw [z, upd_same])
    exact (ho ps y).elim
  · exact h u (by rw [upd_ne z]; exact e)
section
variable {K : PySem.W.Frag} {T : Tb} {S : SA} {Hb H Hb1 H1 Hb2 H2 : Hp} {n n1 n2 : Nat} {p : Addr} {o : HO}
theorem Stp.refl (w : World T S Hb H) : Stp K T S Hb H n Hb H n := ⟨Ex.refl _, w, fun h => h, fun _ _ h1 h2 _ _ _ => ⟨h1, h2⟩, fun _ h => h⟩
theorem Stp.trans (a : Stp K T S Hb H n Hb1 H1 n1) (b : Stp K T S Hb1 H1 n1 Hb2 H2 n2) : Stp K T S Hb H n Hb2 H2 n2 :=
  ⟨a.ex.trans b.ex, b.wd, fun h => b.st (a.st h), fun p o h1 h2 h3 h4 h5 =>
    let ⟨g1, g2⟩ := a.own p o h1 h2 h3 h4 h5
    b.own p o g1 g2 h3 h4 h5, fun p h => a.dm p (b.dm p h)⟩
theorem ex_upd (e : Ex Hb H) (h : H p = none) : Ex (upd Hb p o) (upd H p o) := fun b u q => by
  by_cases hb : b = p
  · subst hb; rw [upd_same] at q ⊢; exact q
  · rw [upd_ne hb] at q ⊢; exact e b u q
theorem free_of (e : Ex Hb H) (h : H p = none) : Hb p = none := Evl.fresh_back e h
theorem World.ne (w : World T S Hb H) (h : H p = none) {q : Addr × Str} (hq : q ∈ T) : q.1 ≠ p := by
  obtain ⟨ps, e, _⟩ := w.tabs q hq
  exact ne_of_none e h
theorem StOk.keep (k : ∀ b u, H b = some u → H1 b = some u) (kb : Ex Hb Hb1) (ka : Hb1 S.a = none) (kl : Hb1 S.l = none) (hn : n ≤ n1) (h : StOk K S Hb H n) : StOk K S Hb1 H1 n1 := by
  obtain ⟨_, _, ls, cs, m, t, h0, h1, h2, h3, h4, h5, h6, h7, h8, h9, h10⟩ := h
  exact ⟨ka, kl, ls, cs, m, t, h0, h1, h2, k _ _ h3, k _ _ h4, kb _ _ h5, h6, h7, h8, Nat.le_trans h9 hn, h10⟩
/-- a new object, frozen at once -/
theorem Stp.new (w : World T S Hb H) (hp : H p = none) (ho : ∀ ps, o ≠ .tbl ps := by intro _ z; cases z) : Stp K T S Hb H n (upd Hb p o) (upd H p o) n where
  ex := Ex.new (free_of w.ex hp)
  wd := ⟨ex_upd w.ex hp, fun q hq => (w.tabs q hq).ext (Ex.new hp), fun q hq => by rw [upd_ne (w.ne hp hq)]; exact w.tb q hq, w.sa.upd ho, w.sl.upd ho, w.sc.upd ho, nt_upd w.nt ho⟩
  st := fun h => by
    have ha : S.a ≠ p := by
      obtain ⟨_, _, ls, cs, m, t, _, _, _, h3, h4, _⟩ := h
      exact ne_of_none h3 hp
    have hl : S.l ≠ p := by
      obtain ⟨_, _, ls, cs, m, t, _, _, _, h3, h4, _⟩ := h
      exact ne_of_none h4 hp
    exact h.keep (Ex.new hp) (Ex.new (free_of w.ex hp)) (by rw [upd_ne ha]; exact h.1) (by rw [upd_ne hl]; exact h.2.1) (Nat.le_refl _)
  own := fun q u h1 h2 _ _ _ => by
    have hq : q ≠ p := ne_of_none h1 hp
    rw [upd_ne hq, upd_ne hq]
    exact ⟨h1, h2⟩
  dm := dm_upd ho
/-- a new object, not frozen -/
theorem Stp.newO (w : World T S Hb H) (hp : H p = none) (ho : ∀ ps, o ≠ .tbl ps := by intro _ z; cases z) : Stp K T S Hb H n Hb (upd H p o) n where
  ex := Ex.refl _
  wd := ⟨w.ex.trans (Ex.new hp), fun q hq => (w.tabs q hq).ext (Ex.new hp), w.tb, w.sa.upd ho, w.sl.upd ho, w.sc.upd ho, w.nt⟩
  st := fun h => h.keep (Ex.new hp) (Ex.refl _) h.1 h.2.1 (Nat.le_refl _)
  own := fun q u h1 h2 _ _ _ => by
    have hq : q ≠ p := ne_of_none h1 hp
    rw [upd_ne hq]
    exact ⟨h1, h2⟩
  dm := dm_upd ho
theorem Stp.le (w : World T S Hb H) (h : n ≤ n1) : Stp K T S Hb H n Hb H n1 := ⟨Ex.refl _, w, fun s => s.keep (fun _ _ q => q) (Ex.refl _) s.1 s.2.1 h, fun _ _ h1 h2 _ _ _ => ⟨h1, h2⟩, fun _ h => h⟩
end
end DL

/-! what a reading does to data -/
namespace DL
open L2 PySem PySem.Spec PyProof.Rows
open Evl (Ex ex_l ex_t sz_of)

/-- a lambda that takes one value and captures nothing -/
structure FV where
  q : Str
  ps : Arguments
  body : Expr
  scope : Scope
def LamV (F : FV) (c f : Addr) : HO := .ext fun h => ∃ pm ctv, h.get? f = some (PySem.W.kla_obj "<lambda>" F.q F.ps F.body F.scope [] pm c ctv)
/-- what a slot (or an argument) holds: nothing known, data, the source of draws, a list of one's own -/
inductive SV where
  | no | d (x : D) | st | ol (xs : List D) | me (x C : Addr) (ns : List Str) (ds : List D) | od (ks : List Key) (ds : List D) | ot (ks : List (List Key)) (ds : List D) | fv (F : FV)
/-- a list or an object of one's own -/
def isOwn : SV → Bool
  | .ol _ => true
  | .me _ _ _ _ => true
  | .od _ _ => true
  | .ot _ _ => true
  | _ => false
section
variable (K : PySem.W.Frag) (S : SA) (Hb H : Hp) (n : Nat)
def SlotOk : SV → Option V → Prop
  | .no, _ => True
  | .d x, o => ∃ v, o = some v ∧ Dn K Hb v x
  | .st, o => o = some (.ref S.a) ∧ StOk K S Hb H n
  | .ol xs, o => ∃ p vs, o = some (.ref p) ∧ H p = some (.lst vs) ∧ Hb p = none ∧ p ≠ S.a ∧ p ≠ S.l ∧ p ≠ S.c ∧ DnA K Hb vs xs
  | .me x C ns ds, o => o = some (.ref x) ∧ ∃ dx fs, H x = some (.ins C dx fs) ∧ Hb x = none ∧ x ≠ S.a ∧ x ≠ S.l ∧ x ≠ S.c ∧ fs.map (·.1) = ns ∧ DnA K Hb (fs.map (·.2)) ds
  | .od ks ds, o => ∃ p kvs, o = some (.ref p) ∧ H p = some (.dK kvs) ∧ Hb p = none ∧ p ≠ S.a ∧ p ≠ S.l ∧ p ≠ S.c ∧ kvs.map (·.1) = ks ∧ DnA K Hb (kvs.map (·.2)) ds
  | .ot ks ds, o => ∃ p kvs, o = some (.ref p) ∧ H p = some (.dT kvs) ∧ Hb p = none ∧ p ≠ S.a ∧ p ≠ S.l ∧ p ≠ S.c ∧ kvs.map (·.1) = ks ∧ DnA K Hb (kvs.map (·.2)) ds
  | .fv F, o => ∃ f c, o = some (.ref f) ∧ Hb f = some (LamV F c f) ∧ H c = some (LamX.CodeO c F.q) ∧ (∀ o, Hb c = some o → o = LamX.CodeO c F.q) ∧ c ≠ S.a ∧ c ≠ S.l
structure Slots (ρ : List SV) (σ : L2.St) : Prop where
  len : ρ.length = σ.length
  ok : ∀ (i : Nat) (s : SV), ρ[i]? = some s → ∃ o : Option V, σ[i]? = some o ∧ SlotOk K S Hb H n s o
  ap : ∀ (i j : Nat) (p : Addr) (xs ys : List D), i ≠ j → ρ[i]? = some (.ol xs) → ρ[j]? = some (.ol ys) → σ[i]? = some (some (.ref p)) → σ[j]? = some (some (.ref p)) → False
inductive Args : List SV → List V → Prop
  | nil : Args [] []
  | cons {s : SV} {v : V} {ss : List SV} {vs : List V} : SlotOk K S Hb H n s (some v) → Args ss vs → Args (s :: ss) (v :: vs)
end
abbrev DQ := D → Nat → Prop
abbrev DX := Addr → List Str → List D → Nat → Prop
abbrev DT := List SV → Nat → DQ → DX → Prop
abbrev DTA := List SV → Nat → (List SV → Nat → Prop) → DX → Prop
abbrev DTT := List SV → Nat → (Bool → Nat → Prop) → DX → Prop
abbrev DSp := List SV → Nat → DQ → DX → Prop

section
variable {K : PySem.W.Frag} {T : Tb} {S : SA} {Hb H Hb1 H1 Hb2 H2 : Hp} {n n1 n2 : Nat}
theorem SlotOk.step {s : SV} {o : Option V} (a : Stp K T S Hb H n Hb1 H1 n1) (h : SlotOk K S Hb H n s o) : SlotOk K S Hb1 H1 n1 s o := by
  cases s with
  | no => trivial
  | d x =>
    obtain ⟨v, e, h⟩ := h
    exact ⟨v, e, h.up a.ex⟩
  | st => exact ⟨h.1, a.st h.2⟩
  | ol xs =>
    obtain ⟨p, vs, e, h1, h2, h3, h4, hc, h5⟩ := h
    obtain ⟨g1, g2⟩ := a.own p _ h1 h2 h3 h4 (fun ps z => by cases z)
    exact ⟨p, vs, e, g1, g2, h3, h4, hc, h5.up a.ex⟩
  | me x C ns ds =>
    obtain ⟨e, dx, fs, h1, h2, h3, h4, hc, h5, h6⟩ := h
    obtain ⟨g1, g2⟩ := a.own x _ h1 h2 h3 h4 (fun ps z => by cases z)
    exact ⟨e, dx, fs, g1, g2, h3, h4, hc, h5, h6.up a.ex⟩
  | od ks ds =>
    obtain ⟨p, kvs, e, h1, h2, h3, h4, hc, h5, h6⟩ := h
    obtain ⟨g1, g2⟩ := a.own p _ h1 h2 h3 h4 (fun ps z => by cases z)
    exact ⟨p, kvs, e, g1, g2, h3, h4, hc, h5, h6.up a.ex⟩
  | ot ks ds =>
    obtain ⟨p, kvs, e, h1, h2, h3, h4, hc, h5, h6⟩ := h
    obtain ⟨g1, g2⟩ := a.own p _ h1 h2 h3 h4 (fun ps z => by cases z)
    exact ⟨p, kvs, e, g1, g2, h3, h4, hc, h5, h6.up a.ex⟩
  | fv F =>
    obtain ⟨f, c, e, h1, h2, h2b, h3, h4⟩ := h
    have no : ∀ ps, LamX.CodeO c F.q ≠ .tbl ps := fun ps z => by
      unfold LamX.CodeO at z
      cases z
    cases hc : Hb c with
    | none =>
      obtain ⟨g1, g2⟩ := a.own c _ h2 hc h3 h4 no
      exact ⟨f, c, e, a.ex _ _ h1, g1, (fun o z => by rw [g2] at z; cases z), h3, h4⟩
    | some o =>
      have z := h2b o hc
      subst z
      have g := a.ex _ _ hc
      exact ⟨f, c, e, a.ex _ _ h1, a.wd.ex _ _ g, (fun o z => by rw [g] at z; exact (Option.some.inj z).symm), h3, h4⟩
theorem Slots.step {ρ : List SV} {σ : L2.St} (a : Stp K T S Hb H n Hb1 H1 n1) (h : Slots K S Hb H n ρ σ) : Slots K S Hb1 H1 n1 ρ σ :=
  ⟨h.len, fun i s e => let ⟨o, e1, e2⟩ := h.ok i s e; ⟨o, e1, e2.step a⟩, h.ap⟩
theorem Args.step {ss : List SV} {vs : List V} (a : Stp K T S Hb H n Hb1 H1 n1) (h : Args K S Hb H n ss vs) : Args K S Hb1 H1 n1 ss vs := by
  induction h with
  | nil => exact .nil
  | cons h _ ih => exact .cons (h.step a) ih
theorem Args.len {ss : List SV} {vs : List V} (h : Args K S Hb H n ss vs) : ss.length = vs.length := by
  induction h with
  | nil => rfl
  | cons _ _ ih => simp [ih]
end

/-- what is wanted of a value, of a Bool, of arguments, of an exception, behind a step from here -/
def VOk (K : PySem.W.Frag) (T : Tb) (S : SA) (Hb H : Hp) (n : Nat) (P : DQ) (Q : VK) : Prop :=
  ∀ d v n' Hb' H', Stp K T S Hb H n Hb' H' n' → Dn K Hb' v d → P d n' → Q v H'
def BOk (K : PySem.W.Frag) (T : Tb) (S : SA) (Hb H : Hp) (n : Nat) (P : Bool → Nat → Prop) (Q : Bool → Hp → Prop) : Prop :=
  ∀ b n' Hb' H', Stp K T S Hb H n Hb' H' n' → P b n' → Q b H'
def AOk (K : PySem.W.Frag) (T : Tb) (S : SA) (Hb H : Hp) (n : Nat) (P : List SV → Nat → Prop) (Q : List V → Hp → Prop) : Prop :=
  ∀ ss vs n' Hb' H', Stp K T S Hb H n Hb' H' n' → Args K S Hb' H' n' ss vs → P ss n' → Q vs H'
def ExD (K : PySem.W.Frag) (Hb : Hp) (od : Option Addr) (ns : List Str) (ds : List D) : Prop :=
  ∃ fs : List (Str × V), (od = none ∧ fs = [] ∨ ∃ dd, od = some dd ∧ fs ≠ [] ∧ Hb dd = some (.xd fs)) ∧ fs.map (·.1) = ns ∧ DnA K Hb (fs.map (·.2)) ds
def XOk (K : PySem.W.Frag) (T : Tb) (S : SA) (Hb H : Hp) (n : Nat) (XP : DX) (E : XK) : Prop :=
  ∀ C ns ds n' od Hb' H', Stp K T S Hb H n Hb' H' n' → ExD K Hb' od ns ds → XP C ns ds n' → E (.ref C) od H'

def Rd (K : PySem.W.Frag) (T : Tb) (S : SA) (E : XK) (te : TE) (F : DT) : Prop :=
  ∀ σ ρ Hb H n P XP Q, World T S Hb H → Slots K S Hb H n ρ σ → F ρ n P XP → VOk K T S Hb H n P Q → XOk K T S Hb H n XP E → te σ H Q
def RdT (K : PySem.W.Frag) (T : Tb) (S : SA) (E : XK) (tt : TT) (F : DTT) : Prop :=
  ∀ σ ρ Hb H n P XP Q, World T S Hb H → Slots K S Hb H n ρ σ → F ρ n P XP → BOk K T S Hb H n P Q → XOk K T S Hb H n XP E → tt σ H Q
def RdA (K : PySem.W.Frag) (T : Tb) (S : SA) (E : XK) (ta : TA) (F : DTA) : Prop :=
  ∀ σ ρ Hb H n P XP Q, World T S Hb H → Slots K S Hb H n ρ σ → F ρ n P XP → AOk K T S Hb H n P Q → XOk K T S Hb H n XP E → ta σ H Q

/-- a def's promise by data -/
def spOf (K : PySem.W.Frag) (T : Tb) (DS : DSp) : Sp := fun vs H Q E => ∃ S Hb n ss P XP, World T S Hb H ∧ Args K S Hb H n ss vs ∧ DS ss n P XP ∧ VOk K T S Hb H n P Q ∧ XOk K T S Hb H n XP E

section
variable {K : PySem.W.Frag} {T : Tb} {S : SA} {E : XK} {Hb H Hb1 H1 : Hp} {n n1 : Nat} {P : DQ} {XP : DX} {Q : VK}
theorem VOk.step (a : Stp K T S Hb H n Hb1 H1 n1) (h : VOk K T S Hb H n P Q) : VOk K T S Hb1 H1 n1 P Q := fun d v n' Hb' H' s => h d v n' Hb' H' (a.trans s)
theorem XOk.step (a : Stp K T S Hb H n Hb1 H1 n1) (h : XOk K T S Hb H n XP E) : XOk K T S Hb1 H1 n1 XP E := fun C ns ds n' od Hb' H' s => h C ns ds n' od Hb' H' (a.trans s)
theorem VOk.now {v : V} {d : D} (h : VOk K T S Hb H n P Q) (w : World T S Hb H) (hv : Dn K Hb v d) (p : P d n) : Q v H := h d v n Hb H (.refl w) hv p
theorem VOk.new {d : D} {p : Addr} {o : HO} (h : VOk K T S Hb H n P Q) (w : World T S Hb H) (hp : H p = none) (hv : Dn K (upd Hb p o) (.ref p) d) (q : P d n) (ho : ∀ ps, o ≠ .tbl ps := by intro _ z; cases z) : Q (.ref p) (upd H p o) := h d _ n _ _ (.new w hp ho) hv q
def xF : DX := fun _ _ _ _ => False
theorem XOk.none {E : XK} : XOk K T S Hb H n xF E := fun _ _ _ _ _ _ _ _ _ h => h.elim
end

/-! ### names, constants -/
def slotD (ρ : List SV) (i : Nat) (k : D → Prop) : Prop := match ρ[i]? with
  | some (.d x) => k x
  | _ => False
def xVar (i : Nat) : DT := fun ρ n P _ => slotD ρ i fun x => P x n
def xC (d : D) : DT := fun _ n P _ => P d n
section
variable {K : PySem.W.Frag} {T : Tb} {S : SA} {E : XK}
theorem Slots.dat {Hb H : Hp} {n : Nat} {ρ : List SV} {σ : L2.St} {i : Nat} {k : D → Prop} (sl : Slots K S Hb H n ρ σ) (h : slotD ρ i k) : ∃ v d, σ[i]? = some (some v) ∧ Dn K Hb v d ∧ k d := by
  unfold slotD at h
  cases e : ρ[i]? with
  | none => rw [e] at h; exact h.elim
  | some s =>
    rw [e] at h
    cases s with
    | d x =>
      obtain ⟨o, e1, v, e2, e3⟩ := sl.ok i _ e
      exact ⟨v, x, by rw [e1, e2], e3, h⟩
    | no => exact h.elim
    | st => exact h.elim
    | ol xs => exact h.elim
    | me _ _ _ _ => exact h.elim
    | od _ _ => exact h.elim
    | ot _ _ => exact h.elim
    | fv _ => exact h.elim
theorem rd_var {i : Nat} : Rd K T S E (tVar i) (xVar i) := fun σ ρ Hb H n P XP Q w sl h q _ => by
  obtain ⟨v, d, e, hd, p⟩ := sl.dat h
  exact ⟨v, e, q.now w hd p⟩
theorem rd_int {i : Int} : Rd K T S E (tC (.int i)) (xC (.int i)) := fun σ ρ Hb H n P XP Q w sl h q _ => q.now w (.int i) h
theorem rd_bl {i : Bool} : Rd K T S E (tC (.bl i)) (xC (.bl i)) := fun σ ρ Hb H n P XP Q w sl h q _ => q.now w (.bl i) h
theorem rd_str {i : Str} : Rd K T S E (tC (.str i)) (xC (.str i)) := fun σ ρ Hb H n P XP Q w sl h q _ => q.now w (.str i) h
theorem rd_non : Rd K T S E (tC .non) (xC .non) := fun σ ρ Hb H n P XP Q w sl h q _ => q.now w .non h

/-! ### arguments -/
def xaNil : DTA := fun _ n P _ => P [] n
def xaCons (F : DT) (G : DTA) : DTA := fun ρ n P XP => F ρ n (fun d n1 => G ρ n1 (fun ss n2 => P (.d d :: ss) n2) XP) XP
def xaSt (i : Nat) (G : DTA) : DTA := fun ρ n P XP => ρ[i]? = some .st ∧ G ρ n (fun ss n2 => P (.st :: ss) n2) XP
theorem rda_nil : RdA K T S E tNil xaNil := fun σ ρ Hb H n P XP Q w sl h q _ => q [] [] n Hb H (.refl w) .nil h
theorem rda_cons {te : TE} {ta : TA} {F : DT} {G : DTA} (h1 : Rd K T S E te F) (h2 : RdA K T S E ta G) : RdA K T S E (tCons te ta) (xaCons F G) := fun σ ρ Hb H n P XP Q w sl h q x =>
  h1 σ ρ Hb H n _ XP _ w sl h (fun d v n1 Hb1 H1 s hd p => h2 σ ρ Hb1 H1 n1 _ XP _ s.wd (sl.step s) p (fun ss vs n2 Hb2 H2 s2 ha p2 => q _ _ n2 Hb2 H2 (s.trans s2) (.cons (s := .d d) ⟨v, rfl, hd.up s2.ex⟩ ha) p2) (x.step s)) x
theorem rda_st {i : Nat} {ta : TA} {G : DTA} (h2 : RdA K T S E ta G) : RdA K T S E (tCons (tVar i) ta) (xaSt i G) := fun σ ρ Hb H n P XP Q w sl h q x => by
  obtain ⟨e, h⟩ := h
  obtain ⟨o, e1, e2, e3⟩ := sl.ok i _ e
  refine ⟨.ref S.a, by rw [e1, e2], ?_⟩
  exact h2 σ ρ Hb H n _ XP _ w sl h (fun ss vs n2 Hb2 H2 s2 ha p2 => q _ _ n2 Hb2 H2 s2 (.cons (s := .st) ⟨rfl, s2.st e3⟩ ha) p2) x

/-! ### calls of defs -/
def xCall (DS : DSp) (G : DTA) : DT := fun ρ n P XP => G ρ n (fun ss n1 => DS ss n1 P XP) XP
theorem rd_call {DS : DSp} {ta : TA} {G : DTA} (h : RdA K T S E ta G) : Rd K T S E (tCall (spOf K T DS) [] E ta) (xCall DS G) := fun σ ρ Hb H n P XP Q w sl hf q x =>
  h σ ρ Hb H n _ XP _ w sl hf (fun ss vs n1 Hb1 H1 s ha p => by
    show spOf K T DS (vs ++ []) H1 Q E
    rw [List.append_nil]
    exact ⟨S, Hb1, n1, ss, P, XP, s.wd, ha, p, q.step s, x.step s⟩) x

/-! ### operators by values -/
/-- an operator on data: where it may stand, what it yields -/
def Op2 (K : PySem.W.Frag) (r : R2) (f : D → D → (D → Prop) → Prop) : Prop :=
  ∀ {T : Tb} {S : SA} {x y : V} {a b : D} {Hb H : Hp} {n : Nat} {P : DQ} {Q : VK}, World T S Hb H → Dn K Hb x a → Dn K Hb y b → f a b (fun d => P d n) → VOk K T S Hb H n P Q → r x y H Q
def xOp (f : D → D → (D → Prop) → Prop) (F G : DT) : DT := fun ρ n P XP => F ρ n (fun a n1 => G ρ n1 (fun b n2 => f a b fun d => P d n2) XP) XP
theorem rd_op {r : R2} {f : D → D → (D → Prop) → Prop} {ta tb : TE} {F G : DT} (ho : Op2 K r f) (h1 : Rd K T S E ta F) (h2 : Rd K T S E tb G) : Rd K T S E (tOp r ta tb) (xOp f F G) := fun σ ρ Hb H n P XP Q w sl h q x =>
  h1 σ ρ Hb H n _ XP _ w sl h (fun d v n1 Hb1 H1 s hd p => h2 σ ρ Hb1 H1 n1 _ XP _ s.wd (sl.step s) p (fun e u n2 Hb2 H2 s2 he p2 => ho s2.wd (hd.up s2.ex) he p2 ((q.step s).step s2)) (x.step s)) x
def Op1 (K : PySem.W.Frag) (r : V → Hp → VK → Prop) (f : D → (D → Prop) → Prop) : Prop :=
  ∀ {T : Tb} {S : SA} {x : V} {a : D} {Hb H : Hp} {n : Nat} {P : DQ} {Q : VK}, World T S Hb H → Dn K Hb x a → f a (fun d => P d n) → VOk K T S Hb H n P Q → r x H Q
def xUn (f : D → (D → Prop) → Prop) (F : DT) : DT := fun ρ n P XP => F ρ n (fun a n1 => f a fun d => P d n1) XP
theorem rd_un {r : V → Hp → VK → Prop} {f : D → (D → Prop) → Prop} {ta : TE} {F : DT} (ho : Op1 K r f) (h1 : Rd K T S E ta F) : Rd K T S E (tUn r ta) (xUn f F) := fun σ ρ Hb H n P XP Q w sl h q x =>
  h1 σ ρ Hb H n _ XP _ w sl h (fun d v n1 Hb1 H1 s hd p => ho s.wd hd p (q.step s)) x
/-- a built-in's call on data -/
def Cal (K : PySem.W.Frag) (r : List V → Hp → VK → Prop) (f : List SV → (D → Prop) → Prop) : Prop :=
  ∀ {T : Tb} {S : SA} {vs : List V} {ss : List SV} {Hb H : Hp} {n : Nat} {P : DQ} {Q : VK}, World T S Hb H → Args K S Hb H n ss vs → f ss (fun d => P d n) → VOk K T S Hb H n P Q → r vs H Q
def xCB (f : List SV → (D → Prop) → Prop) (G : DTA) : DT := fun ρ n P XP => G ρ n (fun ss n1 => f ss fun d => P d n1) XP
theorem rd_cb {r : List V → Hp → VK → Prop} {f : List SV → (D → Prop) → Prop} {ta : TA} {G : DTA} (ho : Cal K r f) (h1 : RdA K T S E ta G) : Rd K T S E (tCB r ta) (xCB f G) := fun σ ρ Hb H n P XP Q w sl h q x =>
  h1 σ ρ Hb H n _ XP _ w sl h (fun ss vs n1 Hb1 H1 s ha p => ho s.wd ha p (q.step s)) x

/-! ### tests, and, or, not, if -/
def xB (F : DT) : DTT := fun ρ n P XP => F ρ n (fun d n1 => match d with | .bl b => P b n1 | _ => False) XP
theorem rdt_B {te : TE} {F : DT} (h1 : Rd K T S E te F) : RdT K T S E (tB te) (xB F) := fun σ ρ Hb H n P XP Q w sl h q x =>
  h1 σ ρ Hb H n _ XP _ w sl h (fun d v n1 Hb1 H1 s hd p => by
    cases d with
    | bl b => cases hd; exact ⟨b, rfl, q b n1 Hb1 H1 s p⟩
    | _ => exact p.elim) x
theorem rdt_test {te : TE} {F : DT} (h1 : Rd K T S E te F) : RdT K T S E (tTest te) (xB F) := fun σ ρ Hb H n P XP Q w sl h q x =>
  h1 σ ρ Hb H n _ XP _ w sl h (fun d v n1 Hb1 H1 s hd p => by
    cases d with
    | bl b => cases hd; exact ⟨b, rfl, q b n1 Hb1 H1 s p⟩
    | _ => exact p.elim) x
def xtAnd (F G : DTT) : DTT := fun ρ n P XP => F ρ n (fun b n1 => match b with | true => G ρ n1 P XP | false => P false n1) XP
def xtOr (F G : DTT) : DTT := fun ρ n P XP => F ρ n (fun b n1 => match b with | true => P true n1 | false => G ρ n1 P XP) XP
def xtNot (F : DTT) : DTT := fun ρ n P XP => F ρ n (fun b n1 => P (!b) n1) XP
variable {t u : TT} {F G : DTT} {te tf : TE} {FE GE : DT}
theorem BOk.step {Hb H Hb1 H1 : Hp} {n n1 : Nat} {P : Bool → Nat → Prop} {Q : Bool → Hp → Prop} (a : Stp K T S Hb H n Hb1 H1 n1) (h : BOk K T S Hb H n P Q) : BOk K T S Hb1 H1 n1 P Q := fun b n' Hb' H' s => h b n' Hb' H' (a.trans s)
theorem rdt_and (h1 : RdT K T S E t F) (h2 : RdT K T S E u G) : RdT K T S E (tAnd t u) (xtAnd F G) := fun σ ρ Hb H n P XP Q w sl h q x =>
  h1 σ ρ Hb H n _ XP _ w sl h (fun b n1 Hb1 H1 s p => by
    cases b with
    | true => exact iteT (h2 σ ρ Hb1 H1 n1 _ XP _ s.wd (sl.step s) p (q.step s) (x.step s))
    | false => exact iteF (q _ _ _ _ s p)) x
theorem rdt_or (h1 : RdT K T S E t F) (h2 : RdT K T S E u G) : RdT K T S E (tOr t u) (xtOr F G) := fun σ ρ Hb H n P XP Q w sl h q x =>
  h1 σ ρ Hb H n _ XP _ w sl h (fun b n1 Hb1 H1 s p => by
    cases b with
    | false => exact iteF (h2 σ ρ Hb1 H1 n1 _ XP _ s.wd (sl.step s) p (q.step s) (x.step s))
    | true => exact iteT (q _ _ _ _ s p)) x
theorem rdt_not (h1 : RdT K T S E t F) : RdT K T S E (tNot t) (xtNot F) := fun σ ρ Hb H n P XP Q w sl h q x =>
  h1 σ ρ Hb H n _ XP _ w sl h (fun b n1 Hb1 H1 s p => q _ _ _ _ s p) x
def xAndV (F G : DT) : DT := fun ρ n P XP => F ρ n (fun d n1 => match d with | .bl true => G ρ n1 P XP | .bl false => P (.bl false) n1 | _ => False) XP
def xOrV (F G : DT) : DT := fun ρ n P XP => F ρ n (fun d n1 => match d with | .bl true => P (.bl true) n1 | .bl false => G ρ n1 P XP | _ => False) XP
def xNotV (F : DT) : DT := fun ρ n P XP => F ρ n (fun d n1 => match d with | .bl b => P (.bl (!b)) n1 | _ => False) XP
theorem rd_andV (h1 : Rd K T S E te FE) (h2 : Rd K T S E tf GE) : Rd K T S E (tAndV te tf) (xAndV FE GE) := fun σ ρ Hb H n P XP Q w sl h q x =>
  h1 σ ρ Hb H n _ XP _ w sl h (fun d v n1 Hb1 H1 s hd p => by
    cases d with
    | bl b =>
      cases hd
      cases b with
      | true => exact ⟨true, rfl, iteT (h2 σ ρ Hb1 H1 n1 _ XP _ s.wd (sl.step s) p (q.step s) (x.step s))⟩
      | false => exact ⟨false, rfl, iteF (q _ _ _ _ _ s (.bl false) p)⟩
    | _ => exact p.elim) x
theorem rd_orV (h1 : Rd K T S E te FE) (h2 : Rd K T S E tf GE) : Rd K T S E (tOrV te tf) (xOrV FE GE) := fun σ ρ Hb H n P XP Q w sl h q x =>
  h1 σ ρ Hb H n _ XP _ w sl h (fun d v n1 Hb1 H1 s hd p => by
    cases d with
    | bl b =>
      cases hd
      cases b with
      | false => exact ⟨false, rfl, iteF (h2 σ ρ Hb1 H1 n1 _ XP _ s.wd (sl.step s) p (q.step s) (x.step s))⟩
      | true => exact ⟨true, rfl, iteT (q _ _ _ _ _ s (.bl true) p)⟩
    | _ => exact p.elim) x
theorem rd_notV (h1 : Rd K T S E te FE) : Rd K T S E (tNotV te) (xNotV FE) := fun σ ρ Hb H n P XP Q w sl h q x =>
  h1 σ ρ Hb H n _ XP _ w sl h (fun d v n1 Hb1 H1 s hd p => by
    cases d with
    | bl b => cases hd; exact ⟨b, rfl, q _ _ _ _ _ s (.bl _) p⟩
    | _ => exact p.elim) x
def xIf (F : DTT) (G1 G2 : DT) : DT := fun ρ n P XP => F ρ n (fun b n1 => match b with | true => G1 ρ n1 P XP | false => G2 ρ n1 P XP) XP
theorem rd_if {tb : TE} {G2 : DT} (h1 : RdT K T S E t F) (h2 : Rd K T S E te FE) (h3 : Rd K T S E tb G2) : Rd K T S E (tIf t te tb) (xIf F FE G2) := fun σ ρ Hb H n P XP Q w sl h q x =>
  h1 σ ρ Hb H n _ XP _ w sl h (fun b n1 Hb1 H1 s p => by
    cases b with
    | true => exact iteT (h2 σ ρ Hb1 H1 n1 _ XP _ s.wd (sl.step s) p (q.step s) (x.step s))
    | false => exact iteF (h3 σ ρ Hb1 H1 n1 _ XP _ s.wd (sl.step s) p (q.step s) (x.step s))) x

/-! ### tuples, lists as displays -/
def svD : SV → Option D
  | .d x => some x
  | _ => none
def allD : List SV → Option (List D)
  | [] => some []
  | s :: ss => match svD s, allD ss with
    | some d, some ds => some (d :: ds)
    | _, _ => none
theorem Args.allD {Hb H : Hp} {n : Nat} : ∀ {ss : List SV} {vs : List V} {ds : List D}, Args K S Hb H n ss vs → DL.allD ss = some ds → DnA K Hb vs ds
  | [], _, _, h, e => by
    cases h
    cases (Option.some.inj e)
    exact .nil
  | s :: ss, _, ds, h, e => by
    cases h with
    | cons h1 h2 =>
      unfold DL.allD at e
      cases s with
      | d x =>
        cases e2 : DL.allD ss with
        | none => rw [e2] at e; simp [svD] at e
        | some es =>
          rw [e2] at e
          simp [svD] at e
          subst e
          obtain ⟨v, q1, q2⟩ := h1
          cases q1
          exact .cons q2 (Args.allD h2 e2)
      | _ => simp [svD] at e
def xTup (G : DTA) : DT := fun ρ n P XP => G ρ n (fun ss n1 => ∃ ds, allD ss = some ds ∧ ds.length ≤ 100000 ∧ P (.tup ds) n1) XP
def xLst (G : DTA) : DT := fun ρ n P XP => G ρ n (fun ss n1 => ∃ ds, allD ss = some ds ∧ ds.length ≤ 100000 ∧ P (.lst ds) n1) XP
theorem rd_tup {ta : TA} {G : DTA} (h1 : RdA K T S E ta G) : Rd K T S E (tTup ta) (xTup G) := fun σ ρ Hb H n P XP Q w sl h q x =>
  h1 σ ρ Hb H n _ XP _ w sl h (fun ss vs n1 Hb1 H1 s ha p => by
    obtain ⟨ds, e, hl, p⟩ := p
    have hd := ha.allD e
    refine ⟨sz_of (by rw [hd.len]; exact hl), fun a hp => ?_⟩
    exact (q.step s).new s.wd hp (.tup (SqT.of upd_same) (hd.up (Ex.new (free_of s.wd.ex hp)))) p) x
theorem rd_lst {ta : TA} {G : DTA} (h1 : RdA K T S E ta G) : Rd K T S E (tLst ta) (xLst G) := fun σ ρ Hb H n P XP Q w sl h q x =>
  h1 σ ρ Hb H n _ XP _ w sl h (fun ss vs n1 Hb1 H1 s ha p => by
    obtain ⟨ds, e, hl, p⟩ := p
    have hd := ha.allD e
    refine ⟨sz_of (by rw [hd.len]; exact hl), fun a hp => ?_⟩
    exact (q.step s).new s.wd hp (.lst (SqL.of upd_same) (hd.up (Ex.new (free_of s.wd.ex hp)))) p) x
end
end DL

/-! operators, subscripts, built-in functions on data -/
namespace DL
open L2 PySem PySem.Spec PyProof.Rows
open Evl (Ex ex_l ex_t sz_of)
section
variable {K : PySem.W.Frag} {T : Tb} {S : SA} {E : XK} {Hb H : Hp} {n : Nat} {P : DQ} {Q : VK} {X : Cx}
theorem Op2.or {r r' : R2} {f : D → D → (D → Prop) → Prop} (h : ∀ {T : Tb} {S : SA} {x y : V} {a b : D} {Hb H : Hp} {n : Nat} {P : DQ} {Q : VK}, World T S Hb H → Dn K Hb x a → Dn K Hb y b → f a b (fun d => P d n) → VOk K T S Hb H n P Q → r x y H Q ∨ r' x y H Q) : Op2 K (fun x y H Q => r x y H Q ∨ r' x y H Q) f := h
/-- v as data of the heap as it stands -/
theorem World.dn (w : World T S Hb H) {v : V} {d : D} (h : Dn K Hb v d) : Dn K H v d := h.up w.ex
theorem World.dna (w : World T S Hb H) {v : List V} {d : List D} (h : DnA K Hb v d) : DnA K H v d := h.up w.ex
/-! ### + -/
def rAddU (K : PySem.W.Frag) : R2 := fun x y H Q => (rI0 (fun i j => .int (i + j))) x y H Q ∨ ((∃ i j, x = .str i ∧ y = .str j ∧ i.length + j.length ≤ sizeLine ∧ Q (.str (i ++ j)) H) ∨ rCatA K x y H Q)
theorem op_addU : OpR X (binaryOp .Add) (rAddU X.K) := OpR.or op_add (OpR.or op_add_str op_catA)
def addD : D → D → (D → Prop) → Prop
  | .int i, .int j, k => k (.int (i + j))
  | .str x, .str y, k => x.length + y.length ≤ 100000 ∧ k (.str (x ++ y))
  | .tup xs, .tup ys, k => xs.length + ys.length ≤ 100000 ∧ k (.tup (xs ++ ys))
  | _, _, _ => False
theorem o2_add : Op2 K (rAddU K) addD := by
  intro T S x y a b Hb H n P Q w hx hy h q
  cases hx with
  | int i =>
    cases hy with
    | int j => exact .inl ⟨i, j, rfl, rfl, q.now w (.int _) h⟩
    | _ => exact h.elim
  | str i =>
    cases hy with
    | str j => exact .inr (.inl ⟨i, j, rfl, rfl, sz_of h.1, q.now w (.str _) h.2⟩)
    | _ => exact h.elim
  | @tup a xs ds h1 h2 =>
    cases hy with
    | @tup b ys es h3 h4 =>
      obtain ⟨hl, h⟩ := h
      refine .inr (.inr ⟨a, b, xs, ys, rfl, rfl, ex_t w.ex h1, ex_t w.ex h3, sz_of (by rw [h2.len, h4.len]; exact hl), fun e => ?_, fun e e' => ?_, fun e e' p hp => ?_⟩)
      · subst e
        have z : ds = [] := by have := h2.len; simpa using this.symm
        subst z
        exact q.now w (.tup h3 h4) h
      · subst e'
        have z : es = [] := by have := h4.len; simpa using this.symm
        subst z
        rw [List.append_nil] at h
        exact q.now w (.tup h1 h2) h
      · exact q.new w hp (.tup (SqT.of upd_same) ((h2.app h4).up (Ex.new (free_of w.ex hp)))) h
    | _ => exact h.elim
  | _ => exact h.elim
def subD : D → D → (D → Prop) → Prop
  | .int i, .int j, k => k (.int (i - j))
  | _, _, _ => False
theorem o2_sub : Op2 K (rI0 fun i j => .int (i - j)) subD := by
  intro T S x y a b Hb H n P Q w hx hy h q
  cases hx with
  | int i =>
    cases hy with
    | int j => exact ⟨i, j, rfl, rfl, q.now w (.int _) h⟩
    | _ => exact h.elim
  | _ => exact h.elim
def intD (C : Int → Int → Prop) (g : Int → Int → Int) : D → D → (D → Prop) → Prop
  | .int i, .int j, k => C i j ∧ k (.int (g i j))
  | _, _, _ => False
theorem o2_int {C : Int → Int → Prop} {g : Int → Int → Int} : Op2 K (rI C fun i j => .int (g i j)) (intD C g) := by
  intro T S x y a b Hb H n P Q w hx hy h q
  cases hx with
  | int i =>
    cases hy with
    | int j => exact ⟨i, j, rfl, rfl, h.1, q.now w (.int _) h.2⟩
    | _ => exact h.elim
  | _ => exact h.elim
def cmpD (g : Int → Int → Bool) : D → D → (D → Prop) → Prop
  | .int i, .int j, k => k (.bl (g i j))
  | _, _, _ => False
theorem o2_cmp {g : Int → Int → Bool} : Op2 K (rI0 fun i j => .bl (g i j)) (cmpD g) := by
  intro T S x y a b Hb H n P Q w hx hy h q
  cases hx with
  | int i =>
    cases hy with
    | int j => exact ⟨i, j, rfl, rfl, q.now w (.bl _) h⟩
    | _ => exact h.elim
  | _ => exact h.elim
/-! ### * : of ints, a tuple times an int -/
def rMulU (K : PySem.W.Frag) : R2 := fun x y H Q => (rI CMul (fun i j => .int (i * j))) x y H Q ∨ rRepT K x y H Q
theorem op_mulU : OpR X (binaryOp .Mult) (rMulU X.K) := OpR.or op_mul op_repT
def mulD : D → D → (D → Prop) → Prop
  | .int i, .int j, k => CMul i j ∧ k (.int (i * j))
  | .tup xs, .int j, k => xs ≠ [] ∧ 2 ≤ j ∧ j ≤ 1000 ∧ xs.length ≤ 1000 ∧ k (.tup (List.replicate j.toNat xs).flatten)
  | _, _, _ => False
theorem DnA.rep {vs : List V} {ds : List D} (h : DnA K H vs ds) : ∀ m : Nat, DnA K H (List.replicate m vs).flatten (List.replicate m ds).flatten
  | 0 => .nil
  | m + 1 => by
    rw [List.replicate_succ, List.replicate_succ, List.flatten_cons, List.flatten_cons]
    exact h.app (DnA.rep h m)
theorem o2_mul : Op2 K (rMulU K) mulD := by
  intro T S x y a b Hb H n P Q w hx hy h q
  cases hx with
  | int i =>
    cases hy with
    | int j => exact .inl ⟨i, j, rfl, rfl, h.1, q.now w (.int _) h.2⟩
    | _ => exact h.elim
  | @tup a xs ds h1 h2 =>
    cases hy with
    | int j =>
      obtain ⟨h3, h4, h5, h6, h⟩ := h
      refine .inr ⟨a, j, xs, rfl, rfl, ex_t w.ex h1, fun e => h3 (by subst e; have := h2.len; simpa using this.symm), h4, h5, by rw [h2.len]; exact h6, fun p hp => ?_⟩
      exact q.new w hp (.tup (SqT.of upd_same) ((h2.rep _).up (Ex.new (free_of w.ex hp)))) h
    | _ => exact h.elim
  | _ => exact h.elim
/-! ### ==, !=, is None -/
mutual
def toP : D → Option PyData
  | .non => some .none
  | .bl b => some (.bool b)
  | .int i => some (.int i)
  | .str x => some (.str x)
  | .lst ds => (toPs ds).map .list
  | .tup ds => (toPs ds).map .tuple
  | _ => none
def toPs : List D → Option (List PyData)
  | [] => some []
  | d :: ds => match toP d, toPs ds with
    | some p, some ps => some (p :: ps)
    | _, _ => none
end
mutual
theorem Dn.toDp : ∀ (d : D) {v : V} {p : PyData}, Dn K H v d → toP d = some p → Dp K H v p
  | .non, _, _, h, e => by cases h; cases e; exact .non
  | .bl b, _, _, h, e => by cases h; cases e; exact .bl b
  | .int i, _, _, h, e => by cases h; cases e; exact .int i
  | .str x, _, _, h, e => by cases h; cases e; exact .str x
  | .lst ds, _, p, h, e => by
    cases h with
    | lst h1 h2 =>
      unfold toP at e
      cases e2 : toPs ds with
      | none => rw [e2] at e; cases e
      | some ps =>
        rw [e2] at e
        cases e
        exact .lst h1 (DnA.toDp ds h2 e2)
  | .tup ds, _, p, h, e => by
    cases h with
    | tup h1 h2 =>
      unfold toP at e
      cases e2 : toPs ds with
      | none => rw [e2] at e; cases e
      | some ps =>
        rw [e2] at e
        cases e
        exact .tup h1 (DnA.toDp ds h2 e2)
  | .dic _ _, _, _, h, e => by unfold toP at e; cases e
  | .ins _ _ _, _, _, h, e => by unfold toP at e; cases e
  | .exc _ _ _, _, _, h, e => by unfold toP at e; cases e
  | .fnv _, _, _, h, e => by unfold toP at e; cases e
theorem DnA.toDp : ∀ (ds : List D) {vs : List V} {ps : List PyData}, DnA K H vs ds → toPs ds = some ps → DpAll K H vs ps
  | [], _, _, h, e => by cases h; cases e; exact .nil
  | d :: ds, _, ps, h, e => by
    cases h with
    | cons h1 h2 =>
      unfold toPs at e
      cases e1 : toP d with
      | none => rw [e1] at e; cases e
      | some p =>
        cases e2 : toPs ds with
        | none => rw [e1, e2] at e; cases e
        | some qs =>
          rw [e1, e2] at e
          cases e
          exact .cons (Dn.toDp d h1 e1) (DnA.toDp ds h2 e2)
end
/-- == of what is no object -/
def eqP (f : Bool → Bool) : D → D → (D → Prop) → Prop
  | .int i, .int j, k => k (.bl (f (decide (i = j))))
  | .bl i, .bl j, k => k (.bl (f (decide (i = j))))
  | .str i, .str j, k => k (.bl (f (decide (i = j))))
  | a, b, k => ∃ p q, toP a = some p ∧ toP b = some q ∧ SeqAt.shaped p = true ∧ SeqAt.shaped q = true ∧ k (.bl (f (PyData.eqv p q)))
def eqD : D → D → (D → Prop) → Prop := eqP id
def neD : D → D → (D → Prop) → Prop := eqP not
theorem eqP_int {f : Bool → Bool} {i j : Int} {k : D → Prop} : eqP f (.int i) (.int j) k = k (.bl (f (decide (i = j)))) := rfl
theorem eqP_bl {f : Bool → Bool} {i j : Bool} {k : D → Prop} : eqP f (.bl i) (.bl j) k = k (.bl (f (decide (i = j)))) := rfl
theorem eqP_str {f : Bool → Bool} {i j : Str} {k : D → Prop} : eqP f (.str i) (.str j) k = k (.bl (f (decide (i = j)))) := rfl
def rEqU (K : PySem.W.Frag) : R2 := fun x y H Q => rEq x y H Q ∨ rEqD K x y H Q
def rNeU (K : PySem.W.Frag) : R2 := fun x y H Q => rNe x y H Q ∨ rNeD K x y H Q
theorem op_eqU {X : Cx} (hu : X.A.units + 64 < cLine) : OpR X (compareOp .Eq) (rEqU X.K) := fun pins s σ H x y u v Q I rx ry h => h.elim (op_eq pins s σ H x y u v Q I rx ry) (op_eqD hu pins s σ H x y u v Q I rx ry)
theorem op_neU {X : Cx} (hu : X.A.units + 64 < cLine) : OpR X (compareOp .NotEq) (rNeU X.K) := fun pins s σ H x y u v Q I rx ry h => h.elim (op_ne pins s σ H x y u v Q I rx ry) (op_neD hu pins s σ H x y u v Q I rx ry)
theorem decI {i j : Int} : decide (V.int i = V.int j) = decide (i = j) := by simp
theorem decB {i j : Bool} : decide (V.bl i = V.bl j) = decide (i = j) := by simp
theorem decS {i j : Str} : decide (V.str i = V.str j) = decide (i = j) := by simp
theorem o2_eq : Op2 K (rEqU K) eqD := by
  intro T S x y a b Hb H n P Q w hx hy h q
  unfold eqD eqP at h
  split at h
  · cases hx
    cases hy
    exact .inl ⟨rfl, q.now w (.bl _) (by rw [decI]; exact h)⟩
  · cases hx
    cases hy
    exact .inl ⟨rfl, q.now w (.bl _) (by rw [decB]; exact h)⟩
  · cases hx
    cases hy
    exact .inl ⟨rfl, q.now w (.bl _) (by rw [decS]; exact h)⟩
  · obtain ⟨p, r, e1, e2, s1, s2, h⟩ := h
    exact .inr ⟨p, r, Dn.toDp _ (w.dn hx) e1, Dn.toDp _ (w.dn hy) e2, s1, s2, q.now w (.bl _) h⟩
theorem o2_ne : Op2 K (rNeU K) neD := by
  intro T S x y a b Hb H n P Q w hx hy h q
  unfold neD eqP at h
  split at h
  · cases hx
    cases hy
    exact .inl ⟨rfl, q.now w (.bl _) (by rw [decI]; exact h)⟩
  · cases hx
    cases hy
    exact .inl ⟨rfl, q.now w (.bl _) (by rw [decB]; exact h)⟩
  · cases hx
    cases hy
    exact .inl ⟨rfl, q.now w (.bl _) (by rw [decS]; exact h)⟩
  · obtain ⟨p, r, e1, e2, s1, s2, h⟩ := h
    exact .inr ⟨p, r, Dn.toDp _ (w.dn hx) e1, Dn.toDp _ (w.dn hy) e2, s1, s2, q.now w (.bl _) h⟩
/-! ### in, not in -/
def inD : D → D → (D → Prop) → Prop := fun a b k => ∃ (i : Int) (ns : List Int), a = .int i ∧ b = .tup (ns.map .int) ∧ k (.bl (ns.any (· == i)))
theorem o2_in : Op2 K (rIn K false) inD := by
  intro T S x y a b Hb H n P Q w hx hy h q
  obtain ⟨i, ns, rfl, rfl, h⟩ := h
  cases hx
  cases hy with
  | @tup a xs ds h1 h2 =>
    have ev : ∀ {ns : List Int} {xs : List V}, DnA K Hb xs (ns.map D.int) → xs = ns.map V.int := by
      intro ns
      induction ns with
      | nil => intro xs h; cases h; rfl
      | cons m ns ih =>
        intro xs h
        cases h with
        | cons h1 h2 =>
          cases h1
          rw [ih h2]
          rfl
    have e := ev h2
    subst e
    refine ⟨a, _, rfl, .inr (ex_t w.ex h1), rfl, ?_, ?_⟩
    · simp [List.all_map]; intro x hx; rfl
    · refine q.now w (.bl _) ?_
      have ei : inV (V.int i) (ns.map V.int) = ns.any (· == i) := by
        unfold inV
        rw [List.any_map]
        rfl
      show P (.bl (if false = true then !inV (V.int i) (ns.map V.int) else inV (V.int i) (ns.map V.int))) n
      rw [if_neg Bool.false_ne_true, ei]
      exact h
def isNon : D → Bool
  | .non => true
  | _ => false
theorem Dn.isN {v : V} {d : D} (h : Dn K H v d) : decide (v = .non) = isNon d := by cases h <;> simp [isNon]
def isD : D → D → (D → Prop) → Prop := fun a b k => b = .non ∧ k (.bl (isNon a))
def isnD : D → D → (D → Prop) → Prop := fun a b k => b = .non ∧ k (.bl (!isNon a))
theorem o2_isN : Op2 K (fun x y H Q => y = .non ∧ Q (.bl (decide (x = .non))) H) isD := by
  intro T S x y a b Hb H n P Q w hx hy h q
  obtain ⟨rfl, h⟩ := h
  cases hy
  exact ⟨rfl, q.now w (.bl _) (by rw [hx.isN]; exact h)⟩
theorem o2_notN : Op2 K (fun x y H Q => y = .non ∧ Q (.bl (!decide (x = .non))) H) isnD := by
  intro T S x y a b Hb H n P Q w hx hy h q
  obtain ⟨rfl, h⟩ := h
  cases hy
  exact ⟨rfl, q.now w (.bl _) (by rw [hx.isN]; exact h)⟩
/-! ### in, not in: flat things in a list or a tuple -/
def flatD : D → Bool
  | .non | .bl _ | .int _ | .str _ => true
  | _ => false
def numD : D → Option Int
  | .bl b => some (if b then 1 else 0)
  | .int i => some i
  | _ => none
/-! ### a <= b <= c -/
def xChain (f g : D → D → (D → Prop) → Prop) (F G I : DT) : DT := fun ρ n P XP => F ρ n (fun a n1 => G ρ n1 (fun b n2 => f a b fun d => match d with
  | .bl true => I ρ n2 (fun c n3 => g b c fun d => P d n3) XP
  | .bl false => P (.bl false) n2
  | _ => False) XP) XP
theorem rd_chain {r r' : R2} {f g : D → D → (D → Prop) → Prop} {ta tb tc : TE} {F G I : DT} (ho : Op2 K r f) (ho' : Op2 K r' g) (h1 : DL.Rd K T S E ta F) (h2 : DL.Rd K T S E tb G) (h3 : DL.Rd K T S E tc I) : DL.Rd K T S E (tChain r r' ta tb tc) (xChain f g F G I) := fun σ ρ Hb H n P XP Q w sl h q x =>
  h1 σ ρ Hb H n _ XP _ w sl h (fun d v n1 Hb1 H1 s hd p => h2 σ ρ Hb1 H1 n1 _ XP _ s.wd (sl.step s) p (fun e u n2 Hb2 H2 s2 he p2 => by
    refine ho (S := S) (P := fun d n => match d with
      | .bl true => I ρ n (fun c n3 => g e c fun d => P d n3) XP
      | .bl false => P (.bl false) n
      | _ => False) s2.wd (hd.up s2.ex) he p2 fun d3 v3 n3 Hb3 H3 s3 hd3 p3 => ?_
    cases d3 with
    | bl b =>
      cases hd3
      have st := (s.trans s2).trans s3
      cases b with
      | true =>
        refine ⟨true, rfl, iteT ?_⟩
        refine h3 σ ρ Hb3 H3 n3 _ XP _ s3.wd (sl.step st) p3 (fun c z n4 Hb4 H4 s4 hc p4 => ?_) (x.step st)
        exact ho' s4.wd ((he.up s3.ex).up s4.ex) hc p4 ((q.step st).step s4)
      | false => exact ⟨false, rfl, iteF (q _ _ _ _ _ st (.bl false) p3)⟩
    | _ => exact p3.elim) (x.step s)) x
/-! ### subscripts -/
def atD (xs : List D) (i : Int) : Option D := (ixN xs.length i).bind fun j => xs[j]?
theorem DnA.at {vs : List V} {ds : List D} {i : Int} {d : D} (h : DnA K H vs ds) (e : atD ds i = some d) : ∃ v, atI vs i = some v ∧ Dn K H v d := by
  unfold atD at e
  cases e1 : ixN ds.length i with
  | none => rw [e1] at e; cases e
  | some j =>
    rw [e1] at e
    obtain ⟨v, e2, hv⟩ := h.get (i := j) (by simpa using e)
    exact ⟨v, by unfold atI; rw [h.len, e1]; simpa using e2, hv⟩
def ixD : D → D → (D → Prop) → Prop
  | .lst xs, .int i, k => ∃ d, atD xs i = some d ∧ k d
  | .tup xs, .int i, k => ∃ d, atD xs i = some d ∧ k d
  | _, _, _ => False
theorem o2_ix : Op2 K (rIx K) ixD := by
  intro T S x y a b Hb H n P Q w hx hy h q
  cases hx with
  | @lst a xs ds h1 h2 =>
    cases hy with
    | int j =>
      obtain ⟨d, e, h⟩ := h
      obtain ⟨v, e2, hv⟩ := h2.at e
      exact .inl ⟨a, xs, j, v, rfl, rfl, ex_l w.ex h1, e2, q.now w hv h⟩
    | _ => exact h.elim
  | @tup a xs ds h1 h2 =>
    cases hy with
    | int j =>
      obtain ⟨d, e, h⟩ := h
      obtain ⟨v, e2, hv⟩ := h2.at e
      exact .inr (.inl ⟨a, xs, j, v, rfl, rfl, ex_t w.ex h1, e2, q.now w hv h⟩)
    | _ => exact h.elim
  | _ => exact h.elim
/-- d[k], the key in d -/
def keyD : D → Option Key
  | .int i => some (.inl i)
  | .str x => some (.inr x)
  | _ => none
def valD (ks : List Key) (ds : List D) (k : Key) : Option D := match ks, ds with
  | k' :: ks, d :: ds => if k' = k then some d else valD ks ds k
  | _, _ => none
theorem val_of : ∀ {kvs : List (Key × V)} {ks : List Key} {ds : List D} {k : Key} {d : D}, kvs.map (·.1) = ks → DnA K H (kvs.map (·.2)) ds → valD ks ds k = some d → ∃ v, valV kvs k = some v ∧ Dn K H v d
  | [], _, ds, k, d, e, h, g => by
    subst e
    unfold valD at g
    simp at g
  | (k', v) :: kvs, _, ds, k, d, e, h, g => by
    subst e
    cases h with
    | @cons _ _ d0 ds0 h1 h2 =>
      have g : (if k' = k then some d0 else valD (kvs.map (·.1)) ds0 k) = some d := g
      by_cases hk : k' = k
      · rw [if_pos hk] at g
        cases g
        exact ⟨v, by simp [valV, hk], h1⟩
      · rw [if_neg hk] at g
        obtain ⟨v', e2, h3⟩ := val_of (ks := kvs.map (·.1)) rfl h2 g
        refine ⟨v', ?_, h3⟩
        unfold valV at e2 ⊢
        rw [List.find?_cons_of_neg (by simpa using hk)]
        exact e2
def xDGet (F G : DT) : DT := fun ρ n P XP => F ρ n (fun a n1 => G ρ n1 (fun b n2 => match a with
  | .dic ks ds => ∃ k d, keyD b = some k ∧ valD ks ds k = some d ∧ P d n2
  | _ => False) XP) XP
theorem rd_dget {ta tb : TE} {F G : DT} (h1 : DL.Rd K T S E ta F) (h2 : DL.Rd K T S E tb G) : DL.Rd K T S E (tDGet ta tb) (xDGet F G) := fun σ ρ Hb H n P XP Q w sl h q x =>
  h1 σ ρ Hb H n _ XP _ w sl h (fun d v n1 Hb1 H1 s hd p => h2 σ ρ Hb1 H1 n1 _ XP _ s.wd (sl.step s) p (fun e u n2 Hb2 H2 s2 he p2 => by
    cases d with
    | dic ks ds =>
      obtain ⟨k, d, e1, e2, p2⟩ := p2
      cases hd with
      | @dic a kvs ks ds g1 g2 g3 =>
        obtain ⟨v, e3, hv⟩ := val_of g2 (g3.up s2.ex) e2
        have ek : u = kV k := by
          cases e with
          | int i => cases he; cases e1; rfl
          | str i => cases he; cases e1; rfl
          | _ => cases e1
        refine ⟨a, v, rfl, ?_, ?_⟩
        · rw [ek, ← e3]
          exact DGet.k (s2.wd.ex _ _ (s2.ex _ _ g1))
        · exact q _ _ _ _ _ (s.trans s2) hv p2
    | _ => exact p2.elim) (x.step s)) x
/-! ### slices of tuples and lists -/
def cutD (xs : List D) (lo hi : Option Int) : List D := (xs.drop (HT.sIx xs.length 0 lo)).take (HT.sIx xs.length xs.length hi - HT.sIx xs.length 0 lo)
theorem DnA.cut {vs : List V} {ds : List D} (h : DnA K H vs ds) (lo hi : Option Int) : DnA K H (cutV vs lo hi) (cutD ds lo hi) := by
  unfold cutV cutD
  rw [h.len]
  exact (h.drop _).take _
def rSlU (K : PySem.W.Frag) : V → Option Int → Option Int → Hp → VK → Prop := fun x lo hi H Q => rSlL K x lo hi H Q ∨ (rSlA K x lo hi H Q ∨ rSlS x lo hi H Q)
theorem sl_U : SlR X (rSlU X.K) := SlR.or sl_list (SlR.or sl_tupA sl_str)
def slD : D → Option Int → Option Int → (D → Prop) → Prop
  | .lst xs, lo, hi, k => k (.lst (cutD xs lo hi))
  | .tup xs, lo, hi, k => k (.tup (cutD xs lo hi))
  | .str z, lo, hi, k => z.length ≤ 100000 ∧ k (.str (cutS z lo hi))
  | _, _, _, _ => False
abbrev DTO := List SV → Nat → (Option Int → Nat → Prop) → DX → Prop
def RdO (K : PySem.W.Frag) (T : Tb) (S : SA) (E : XK) (to : TO) (F : DTO) : Prop :=
  ∀ σ ρ Hb H n P XP (Q : Option Int → Hp → Prop), World T S Hb H → Slots K S Hb H n ρ σ → F ρ n P XP → (∀ o n' Hb' H', Stp K T S Hb H n Hb' H' n' → P o n' → Q o H') → XOk K T S Hb H n XP E → to σ H Q
def xoNone : DTO := fun _ n P _ => P none n
def xoSome (F : DT) : DTO := fun ρ n P XP => F ρ n (fun d n1 => match d with | .int i => P (some i) n1 | _ => False) XP
theorem rdo_none : RdO K T S E tNoPart xoNone := fun σ ρ Hb H n P XP Q w sl h q _ => q none n Hb H (.refl w) h
theorem rdo_some {te : TE} {F : DT} (h1 : DL.Rd K T S E te F) : RdO K T S E (tPart te) (xoSome F) := fun σ ρ Hb H n P XP Q w sl h q x =>
  h1 σ ρ Hb H n _ XP _ w sl h (fun d v n1 Hb1 H1 s hd p => by
    cases d with
    | int i => cases hd; exact ⟨i, rfl, q _ _ _ _ s p⟩
    | _ => exact p.elim) x
def xSl (F : DT) (G I : DTO) : DT := fun ρ n P XP => F ρ n (fun a n1 => G ρ n1 (fun lo n2 => I ρ n2 (fun hi n3 => slD a lo hi fun d => P d n3) XP) XP) XP
theorem rd_sl {te : TE} {tl th : TO} {F : DT} {G I : DTO} (h1 : DL.Rd K T S E te F) (h2 : RdO K T S E tl G) (h3 : RdO K T S E th I) : DL.Rd K T S E (tSl (rSlU K) te tl th) (xSl F G I) := fun σ ρ Hb H n P XP Q w sl h q x =>
  h1 σ ρ Hb H n _ XP _ w sl h (fun d v n1 Hb1 H1 s hd p => h2 σ ρ Hb1 H1 n1 _ XP _ s.wd (sl.step s) p (fun lo n2 Hb2 H2 s2 p2 => h3 σ ρ Hb2 H2 n2 _ XP _ s2.wd ((sl.step s).step s2) p2 (fun hi n3 Hb3 H3 s3 p3 => by
    have st := (s.trans s2).trans s3
    have hd3 := (hd.up s2.ex).up s3.ex
    have q3 := q.step st
    cases hd3 with
    | @lst a xs ds g1 g2 => exact .inl ⟨a, xs, rfl, ex_l s3.wd.ex g1, fun p hp => q3.new s3.wd hp (.lst (SqL.of upd_same) ((g2.cut lo hi).up (Ex.new (free_of s3.wd.ex hp)))) p3⟩
    | @tup a xs ds g1 g2 =>
      refine .inr (.inl ⟨a, xs, rfl, ex_t s3.wd.ex g1, fun e => ?_, fun _ p hp => q3.new s3.wd hp (.tup (SqT.of upd_same) ((g2.cut lo hi).up (Ex.new (free_of s3.wd.ex hp)))) p3⟩)
      have z : cutD ds lo hi = ds := by
        unfold cutD
        rw [← g2.len, e.1, e.2, g2.len]
        simp
      have p3 : P (.tup (cutD ds lo hi)) n3 := p3
      rw [z] at p3
      exact q3.now s3.wd (.tup g1 g2) p3
    | str z => exact .inr (.inr ⟨z, rfl, sz_of p3.1, q3.now s3.wd (.str _) p3.2⟩)
    | _ => exact p3.elim) ((x.step s).step s2)) (x.step s)) x
end
end DL

/-! repr, isinstance, len, all, tuple, list, int, abs on data -/
namespace DL
open L2 PySem PySem.Spec PyProof.Rows
open Evl (Ex ex_l ex_t sz_of)
section
variable {K : PySem.W.Frag} {T : Tb} {S : SA} {E : XK} {Hb H : Hp} {n : Nat} {P : DQ} {Q : VK} {X : Cx}
/-! ### repr -/
def okR (d : PyData) : Prop := d.showable = true ∧ d.hasDict = false ∧ d.depth ≤ 60 ∧ d.shown.length ≤ 100000
def rRepr (K : PySem.W.Frag) : List V → Hp → VK → Prop := fun xs H Q => ∃ v d, xs = [v] ∧ Dp K H v d ∧ okR d ∧ Q (.str d.shown) H
theorem call_repr (hg : X.A.guards = some []) (hu : X.A.units + 64 < cLine) : CallR X (.builtin "repr") (rRepr X.K) := by
  intro pins s σ H xs us Q I r h
  obtain ⟨v, d, rfl, hd, ⟨h1, h2, h3, h4⟩, q⟩ := h
  obtain ⟨u, rfl, ru⟩ : ∃ u, us = [u] ∧ RelV v u := by
    cases r with
    | cons a b => cases b; exact ⟨_, rfl, a⟩
  have seqs : ∀ a, u = .ref a → isDisplay d = true → wpAny (model X.prog X.w) X.A (call (.builtin "repr") [u]) (EP X pins σ Q) X.xe s := fun a e _ => by
    subst e
    obtain ⟨as, rd⟩ := Dp.reads I d v _ hd ru
    refine repr_of_reads' rd h1 (PyData.noDict_hsm h2) hg (by omega) (fun _ _ e => e) (fun h' u tk hk => ?_) (sz_of h4)
    exact ⟨.str d.shown, H, I.kept (h' := h') (t' := tk) hk, ⟨_, rfl⟩, q⟩
  cases hd with
  | non => cases ru; exact PySem.P.repr_of_none ⟨.str _, H, I.tok _, ⟨_, rfl⟩, q⟩
  | bl b => cases ru; exact PySem.P.repr_of_bool ⟨.str _, H, I.tok _, ⟨_, rfl⟩, q⟩
  | int i =>
    obtain ⟨t, rfl⟩ := ru
    exact PySem.P.repr_of_int (by simpa [PyData.showable] using h1) ⟨.str _, H, I.tok _, ⟨_, rfl⟩, q⟩
  | str x =>
    obtain ⟨t, rfl⟩ := ru
    exact PySem.P.repr_of_str ⟨.str _, H, I.tok _, ⟨_, rfl⟩, q⟩ (sz_of h4)
  | lst a b => exact seqs _ ru rfl
  | tup a b => exact seqs _ ru rfl
def reprD : List SV → (D → Prop) → Prop
  | [.d d], k => ∃ p, toP d = some p ∧ okR p ∧ k (.str p.shown)
  | _, _ => False
theorem cal_repr : Cal K (rRepr K) reprD := by
  intro T S vs ss Hb H n P Q w ha h q
  cases ha with
  | nil => exact h.elim
  | @cons s v ss vs h1 h2 =>
    cases h2 with
    | cons _ _ => cases s <;> exact h.elim
    | nil =>
      cases s with
      | d d =>
        obtain ⟨p, e, ok, h⟩ := h
        obtain ⟨v', e', hv⟩ := h1
        cases e'
        exact ⟨v, p, rfl, Dn.toDp d (w.dn hv) e, ok, q.now w (.str _) h⟩
      | _ => exact h.elim
/-- one argument that is data -/
def one1 (f : D → (D → Prop) → Prop) : List SV → (D → Prop) → Prop
  | [.d d], k => f d k
  | _, _ => False
theorem cal_one {r : List V → Hp → VK → Prop} {f : D → (D → Prop) → Prop} (h : ∀ {T : Tb} {S : SA} {v : V} {d : D} {Hb H : Hp} {n : Nat} {P : DQ} {Q : VK}, World T S Hb H → Dn K Hb v d → f d (fun d => P d n) → VOk K T S Hb H n P Q → r [v] H Q) : Cal K r (one1 f) := by
  intro T S vs ss Hb H n P Q w ha hf q
  cases ha with
  | nil => exact hf.elim
  | @cons s v ss vs h1 h2 =>
    cases h2 with
    | cons _ _ => cases s <;> exact hf.elim
    | nil =>
      cases s with
      | d d =>
        obtain ⟨v', e', hv⟩ := h1
        cases e'
        exact h w hv hf q
      | _ => exact hf.elim
def two2 (f : D → D → (D → Prop) → Prop) : List SV → (D → Prop) → Prop
  | [.d a, .d b], k => f a b k
  | _, _ => False
theorem cal_two {r : List V → Hp → VK → Prop} {f : D → D → (D → Prop) → Prop} (h : ∀ {T : Tb} {S : SA} {v u : V} {a b : D} {Hb H : Hp} {n : Nat} {P : DQ} {Q : VK}, World T S Hb H → Dn K Hb v a → Dn K Hb u b → f a b (fun d => P d n) → VOk K T S Hb H n P Q → r [v, u] H Q) : Cal K r (two2 f) := by
  intro T S vs ss Hb H n P Q w ha hf q
  cases ha with
  | nil => exact hf.elim
  | @cons s v ss vs h1 h2 =>
    cases h2 with
    | nil => cases s <;> exact hf.elim
    | @cons s' v' ss' vs' h3 h4 =>
      cases h4 with
      | cons _ _ => cases s <;> first | exact hf.elim | (cases s' <;> exact hf.elim)
      | nil =>
        cases s with
        | d d =>
          cases s' with
          | d e =>
            obtain ⟨_, e1, hv⟩ := h1
            obtain ⟨_, e2, hu⟩ := h3
            cases e1
            cases e2
            exact h w hv hu hf q
          | _ => exact hf.elim
        | _ => exact hf.elim
/-! ### len -/
def rLenU (K : PySem.W.Frag) : List V → Hp → VK → Prop := fun xs H Q => (∃ p ys, xs = [.ref p] ∧ (SqL K H p ys ∨ SqT K H p ys) ∧ Q (.int ys.length) H) ∨ ∃ z, xs = [.str z] ∧ z.length ≤ sizeLine ∧ Q (.int z.length) H
theorem call_lenU : CallR X (.builtin "len") (rLenU X.K) := CallR.or call_len_seq call_len_str
def lenD : D → (D → Prop) → Prop
  | .lst xs, k => k (.int xs.length)
  | .tup xs, k => k (.int xs.length)
  | .str z, k => z.length ≤ 100000 ∧ k (.int z.length)
  | _, _ => False
theorem cal_len : Cal K (rLenU K) (one1 lenD) := by
  refine cal_one ?_
  intro T S v d Hb H n P Q w hv h q
  cases hv with
  | lst h1 h2 => exact .inl ⟨_, _, rfl, .inl (ex_l w.ex h1), q.now w (.int _) (by rw [h2.len]; exact h)⟩
  | tup h1 h2 => exact .inl ⟨_, _, rfl, .inr (ex_t w.ex h1), q.now w (.int _) (by rw [h2.len]; exact h)⟩
  | str z => exact .inr ⟨_, rfl, sz_of h.1, q.now w (.int _) h.2⟩
  | _ => exact h.elim
/-! ### all, any -/
def blsD : List D → Option (List Bool)
  | [] => some []
  | .bl b :: ds => (blsD ds).map (b :: ·)
  | _ :: _ => none
theorem bls_of : ∀ {ds : List D} {vs : List V} {bs : List Bool}, DnA K H vs ds → blsD ds = some bs → vs = bs.map V.bl
  | [], _, bs, h, e => by cases h; cases e; rfl
  | d :: ds, _, bs, h, e => by
    cases h with
    | cons h1 h2 =>
      cases d with
      | bl b =>
        unfold blsD at e
        cases e2 : blsD ds with
        | none => rw [e2] at e; cases e
        | some cs =>
          rw [e2] at e
          cases e
          cases h1
          rw [bls_of h2 e2]
          rfl
      | _ => cases e
def allD' : D → (D → Prop) → Prop
  | .lst xs, k => ∃ bs, blsD xs = some bs ∧ k (.bl (bs.all id))
  | _, _ => False
def anyD' : D → (D → Prop) → Prop
  | .lst xs, k => ∃ bs, blsD xs = some bs ∧ k (.bl (bs.any id))
  | _, _ => False
theorem cal_all : Cal K (rAll K) (one1 allD') := by
  refine cal_one ?_
  intro T S v d Hb H n P Q w hv h q
  cases hv with
  | lst h1 h2 =>
    obtain ⟨bs, e, h⟩ := h
    refine ⟨_, bs, rfl, ?_, q.now w (.bl _) h⟩
    rw [← bls_of h2 e]
    exact ex_l w.ex h1
  | _ => exact h.elim
theorem cal_any : Cal K (rAny K) (one1 anyD') := by
  refine cal_one ?_
  intro T S v d Hb H n P Q w hv h q
  cases hv with
  | lst h1 h2 =>
    obtain ⟨bs, e, h⟩ := h
    refine ⟨_, bs, rfl, ?_, q.now w (.bl _) h⟩
    rw [← bls_of h2 e]
    exact ex_l w.ex h1
  | _ => exact h.elim
/-! ### tuple, list -/
def rTupOf (K : PySem.W.Frag) : List V → Hp → VK → Prop := fun xs H Q => ∃ p ys, xs = [.ref p] ∧ ((SqL K H p ys ∧ ∀ l, H l = none → Q (.ref l) (upd H l (.tup ys))) ∨ (SqT K H p ys ∧ Q (.ref p) H))
def tupD : D → (D → Prop) → Prop
  | .lst xs, k => k (.tup xs)
  | .tup xs, k => k (.tup xs)
  | _, _ => False
theorem call_tupU : CallR X (.type "tuple") (rTupOf X.K) := call_tuple_of
theorem cal_tuple : Cal K (rTupOf K) (one1 tupD) := by
  refine cal_one ?_
  intro T S v d Hb H n P Q w hv h q
  cases hv with
  | lst h1 h2 => exact ⟨_, _, rfl, .inl ⟨ex_l w.ex h1, fun p hp => q.new w hp (.tup (SqT.of upd_same) (h2.up (Ex.new (free_of w.ex hp)))) h⟩⟩
  | tup h1 h2 => exact ⟨_, _, rfl, .inr ⟨ex_t w.ex h1, q.now w (.tup h1 h2) h⟩⟩
  | _ => exact h.elim
def lstD : D → (D → Prop) → Prop
  | .lst xs, k => k (.lst xs)
  | .tup xs, k => k (.lst xs)
  | _, _ => False
def rListU (K : PySem.W.Frag) : List V → Hp → VK → Prop := fun xs H Q => ∃ p ys, xs = [.ref p] ∧ (SqL K H p ys ∨ SqT K H p ys) ∧ ∀ l, H l = none → Q (.ref l) (upd H l (.lst ys))
theorem call_rListU : CallR X (.type "list") (rListU X.K) := call_list_of
theorem cal_list : Cal K (rListU K) (one1 lstD) := by
  refine cal_one ?_
  intro T S v d Hb H n P Q w hv h q
  cases hv with
  | lst h1 h2 => exact ⟨_, _, rfl, .inl (ex_l w.ex h1), fun p hp => q.new w hp (.lst (SqL.of upd_same) (h2.up (Ex.new (free_of w.ex hp)))) h⟩
  | tup h1 h2 => exact ⟨_, _, rfl, .inr (ex_t w.ex h1), fun p hp => q.new w hp (.lst (SqL.of upd_same) (h2.up (Ex.new (free_of w.ex hp)))) h⟩
  | _ => exact h.elim
/-! ### ints -/
def int1D : D → (D → Prop) → Prop
  | .int i, k => k (.int i)
  | _, _ => False
def rInt1 : List V → Hp → VK → Prop := fun xs H Q => (∃ i, xs = [.int i] ∧ Q (.int i) H) ∨ ∃ k, xs = [.bl k] ∧ Q (.int (if k then 1 else 0)) H
theorem call_rInt1 : CallR X (.type "int") rInt1 := call_int1
theorem cal_int : Cal K (rInt1) (one1 int1D) := by
  refine cal_one ?_
  intro T S v d Hb H n P Q w hv h q
  cases hv with
  | int i => exact .inl ⟨_, rfl, q.now w (.int _) h⟩
  | _ => exact h.elim
def absD : D → (D → Prop) → Prop
  | .int i, k => k (.int (if i < 0 then -i else i))
  | _, _ => False
def rAbs : List V → Hp → VK → Prop := fun xs H Q => ∃ i, xs = [.int i] ∧ Q (.int (if i < 0 then -i else i)) H
theorem call_rAbs : CallR X (.builtin "abs") rAbs := call_abs
theorem cal_abs : Cal K (rAbs) (one1 absD) := by
  refine cal_one ?_
  intro T S v d Hb H n P Q w hv h q
  cases hv with
  | int i => exact ⟨_, rfl, q.now w (.int _) h⟩
  | _ => exact h.elim
def maxD : D → D → (D → Prop) → Prop
  | .int i, .int j, k => k (.int (if j > i then j else i))
  | _, _, _ => False
def minD : D → D → (D → Prop) → Prop
  | .int i, .int j, k => k (.int (if j < i then j else i))
  | _, _, _ => False
def rMax2 : List V → Hp → VK → Prop := fun xs H Q => ∃ i j, xs = [.int i, .int j] ∧ Q (.int (if j > i then j else i)) H
theorem call_rMax2 (hc : X.calm = true) : CallR X (.builtin "max") rMax2 := call_max2 hc
theorem cal_max2 : Cal K (rMax2) (two2 maxD) := by
  refine cal_two ?_
  intro T S v u a b Hb H n P Q w hv hu h q
  cases hv with
  | int i =>
    cases hu with
    | int j => exact ⟨_, _, rfl, q.now w (.int _) h⟩
    | _ => exact h.elim
  | _ => exact h.elim
def rMin2 : List V → Hp → VK → Prop := fun xs H Q => ∃ i j, xs = [.int i, .int j] ∧ Q (.int (if j < i then j else i)) H
theorem call_rMin2 (hc : X.calm = true) : CallR X (.builtin "min") rMin2 := call_min2 hc
theorem cal_min2 : Cal K (rMin2) (two2 minD) := by
  refine cal_two ?_
  intro T S v u a b Hb H n P Q w hv hu h q
  cases hv with
  | int i =>
    cases hu with
    | int j => exact ⟨_, _, rfl, q.now w (.int _) h⟩
    | _ => exact h.elim
  | _ => exact h.elim
def negD : D → (D → Prop) → Prop
  | .int i, k => k (.int (-i))
  | _, _ => False
theorem o1_neg : Op1 K (rU fun i => .int (-i)) negD := by
  intro T S x a Hb H n P Q w hx h q
  cases hx with
  | int i => exact ⟨i, rfl, q.now w (.int _) h⟩
  | _ => exact h.elim
end
end DL

/-! statements, targets, what is walked, comprehensions, displays, fields, isinstance on data -/
namespace DL
open L2 PySem PySem.Spec PyProof.Rows
open Evl (Ex ex_l ex_t sz_of)

/-! ### statements -/
structure DEn where
  nx : List SV → Nat → Prop
  rt : DQ
  bk : List SV → Nat → Prop := fun _ _ => False
  ct : List SV → Nat → Prop := fun _ _ => False
abbrev DTS := DEn → List SV → Nat → DX → Prop
/-- the lists of one's own are younger than the base -/
def OwF (H0 : Hp) (ρ : List SV) (σ : L2.St) : Prop := ∀ (i : Nat) (xs : SV) (p : Addr), ρ[i]? = some xs → isOwn xs = true → σ[i]? = some (some (.ref p)) → Fresh H0 p
structure Sl0 (K : PySem.W.Frag) (S : SA) (H0 Hb H : Hp) (n : Nat) (ρ : List SV) (σ : L2.St) : Prop where
  sl : Slots K S Hb H n ρ σ
  fr : OwF H0 ρ σ
def NOk (K : PySem.W.Frag) (T : Tb) (S : SA) (Hb H : Hp) (n : Nat) (Hc : Hp) (P : List SV → Nat → Prop) (Q : L2.St → Hp → Prop) : Prop :=
  ∀ ρ σ n' Hb' H', Ex Hc Hb' → Stp K T S Hb H n Hb' H' n' → Sl0 K S H Hb' H' n' ρ σ → P ρ n' → Q σ H'
/-- Hc: what is frozen now -/
structure EOk (K : PySem.W.Frag) (T : Tb) (S : SA) (Hb H : Hp) (n : Nat) (Hc : Hp) (DD : DEn) (D : Ends) : Prop where
  nx : NOk K T S Hb H n Hc DD.nx D.nx
  rt : VOk K T S Hb H n DD.rt D.rt
  bk : NOk K T S Hb H n Hc DD.bk D.bk
  ct : NOk K T S Hb H n Hc DD.ct D.ct
/-- from the base Hb0 H0 n0 (a def's entry) the run has come to Hb H n -/
def RdS (K : PySem.W.Frag) (T : Tb) (S : SA) (E : XK) (ts : TS) (G : DTS) : Prop :=
  ∀ σ ρ Hb0 H0 n0 Hb H n DD XP D, Stp K T S Hb0 H0 n0 Hb H n → Sl0 K S H0 Hb H n ρ σ → G DD ρ n XP → EOk K T S Hb0 H0 n0 Hb DD D → XOk K T S Hb0 H0 n0 XP E → ts D σ H
section
variable {K : PySem.W.Frag} {T : Tb} {S : SA} {E : XK} {Hb H Hb1 H1 H0 : Hp} {n n1 : Nat}
/-- a slot is stored -/
theorem Slots.set {ρ : List SV} {σ : L2.St} {i : Nat} {v : V} {d : D} (sl : Slots K S Hb H n ρ σ) (h : Dn K Hb v d) : Slots K S Hb H n (ρ.set i (.d d)) (σ.set i (some v)) where
  len := by rw [List.length_set, List.length_set]; exact sl.len
  ok := fun j s e => by
    by_cases hj : i = j
    · subst hj
      have hl : i < ρ.length := by
        have := (List.getElem?_eq_some_iff.mp e).1
        rwa [List.length_set] at this
      rw [List.getElem?_set_self hl] at e
      cases e
      exact ⟨some v, List.getElem?_set_self (by rw [← sl.len]; exact hl), v, rfl, h⟩
    · rw [List.getElem?_set_ne hj] at e
      obtain ⟨o, e1, e2⟩ := sl.ok j s e
      exact ⟨o, by rw [List.getElem?_set_ne hj]; exact e1, e2⟩
  ap := fun j k p xs ys hjk ej ek sj sk => by
    by_cases h1 : i = j
    · subst h1
      have hl : i < ρ.length := by
        have := (List.getElem?_eq_some_iff.mp ej).1
        rwa [List.length_set] at this
      rw [List.getElem?_set_self hl] at ej
      cases ej
    · by_cases h2 : i = k
      · subst h2
        have hl : i < ρ.length := by
          have := (List.getElem?_eq_some_iff.mp ek).1
          rwa [List.length_set] at this
        rw [List.getElem?_set_self hl] at ek
        cases ek
      · rw [List.getElem?_set_ne h1] at ej sj
        rw [List.getElem?_set_ne h2] at ek sk
        exact sl.ap j k p xs ys hjk ej ek sj sk
theorem Slots.forget {ρ : List SV} {σ : L2.St} {i : Nat} {o : Option V} (sl : Slots K S Hb H n ρ σ) : Slots K S Hb H n (ρ.set i .no) (σ.set i o) where
  len := by rw [List.length_set, List.length_set]; exact sl.len
  ok := fun j s e => by
    by_cases hj : i = j
    · subst hj
      have hl : i < ρ.length := by
        have := (List.getElem?_eq_some_iff.mp e).1
        rwa [List.length_set] at this
      rw [List.getElem?_set_self hl] at e
      cases e
      exact ⟨o, List.getElem?_set_self (by rw [← sl.len]; exact hl), trivial⟩
    · rw [List.getElem?_set_ne hj] at e
      obtain ⟨o, e1, e2⟩ := sl.ok j s e
      exact ⟨o, by rw [List.getElem?_set_ne hj]; exact e1, e2⟩
  ap := fun j k p xs ys hjk ej ek sj sk => by
    by_cases h1 : i = j
    · subst h1
      have hl : i < ρ.length := by
        have := (List.getElem?_eq_some_iff.mp ej).1
        rwa [List.length_set] at this
      rw [List.getElem?_set_self hl] at ej
      cases ej
    · by_cases h2 : i = k
      · subst h2
        have hl : i < ρ.length := by
          have := (List.getElem?_eq_some_iff.mp ek).1
          rwa [List.length_set] at this
        rw [List.getElem?_set_self hl] at ek
        cases ek
      · rw [List.getElem?_set_ne h1] at ej sj
        rw [List.getElem?_set_ne h2] at ek sk
        exact sl.ap j k p xs ys hjk ej ek sj sk
def wipeS (ρ : List SV) : List Nat → List SV
  | [] => ρ
  | v :: vs => (wipeS ρ vs).set v .no
theorem Slots.wiped {ρ : List SV} {σ : L2.St} (sl : Slots K S Hb H n ρ σ) : ∀ vs : List Nat, Slots K S Hb H n (wipeS ρ vs) (wipe σ vs)
  | [] => sl
  | v :: vs => (Slots.wiped sl vs).forget

theorem OwF.set {ρ : List SV} {σ : L2.St} {i : Nat} {s : SV} {o : Option V} (f : OwF H0 ρ σ) (hs : isOwn s = false) : OwF H0 (ρ.set i s) (σ.set i o) := fun j xs p e1 eo e2 => by
  by_cases hj : i = j
  · subst hj
    have hl : i < ρ.length := by
      have := (List.getElem?_eq_some_iff.mp e1).1
      rwa [List.length_set] at this
    rw [List.getElem?_set_self hl] at e1
    rw [← Option.some.inj e1, hs] at eo
    cases eo
  · rw [List.getElem?_set_ne hj] at e1 e2
    exact f j xs p e1 eo e2
theorem Sl0.step {ρ : List SV} {σ : L2.St} (a : Stp K T S Hb H n Hb1 H1 n1) (h : Sl0 K S H0 Hb H n ρ σ) : Sl0 K S H0 Hb1 H1 n1 ρ σ := ⟨h.sl.step a, h.fr⟩
theorem Sl0.set {ρ : List SV} {σ : L2.St} {i : Nat} {v : V} {d : D} (sl : Sl0 K S H0 Hb H n ρ σ) (h : Dn K Hb v d) : Sl0 K S H0 Hb H n (ρ.set i (.d d)) (σ.set i (some v)) := ⟨sl.sl.set h, sl.fr.set rfl⟩

theorem NOk.up {Hb0 Hc Hc' : Hp} {n0 : Nat} {P : List SV → Nat → Prop} {Q : L2.St → Hp → Prop} (e : Ex Hc Hc') (h : NOk K T S Hb0 H0 n0 Hc P Q) : NOk K T S Hb0 H0 n0 Hc' P Q := fun ρ σ n' Hb' H' e' => h ρ σ n' Hb' H' (e.trans e')
theorem EOk.up {Hb0 Hc Hc' : Hp} {n0 : Nat} {DD : DEn} {D : Ends} (e : Ex Hc Hc') (h : EOk K T S Hb0 H0 n0 Hc DD D) : EOk K T S Hb0 H0 n0 Hc' DD D := ⟨h.nx.up e, h.rt, h.bk.up e, h.ct.up e⟩
def xsSeq (F G : DTS) : DTS := fun DD ρ n XP => F { DD with nx := fun ρ' n' => G DD ρ' n' XP } ρ n XP
def xsNext : DTS := fun DD ρ n _ => DD.nx ρ n
def xsSet (i : Nat) (F : DT) : DTS := fun DD ρ n XP => F ρ n (fun d n1 => DD.nx (ρ.set i (.d d)) n1) XP
def xsRet (F : DT) : DTS := fun DD ρ n XP => F ρ n DD.rt XP
def xsRetN : DTS := fun DD _ n _ => DD.rt .non n
def xsIf (F : DTT) (G1 G2 : DTS) : DTS := fun DD ρ n XP => F ρ n (fun b n1 => match b with | true => G1 DD ρ n1 XP | false => G2 DD ρ n1 XP) XP
def xsDrop (F : DT) : DTS := fun DD ρ n XP => F ρ n (fun _ n1 => DD.nx ρ n1) XP
variable {t u : TS} {F G : DTS} {te : TE} {FE : DT}
theorem rds_seq (h1 : RdS K T S E t F) (h2 : RdS K T S E u G) : RdS K T S E (tSeq t u) (xsSeq F G) := fun σ ρ Hb0 H0 n0 Hb H n DD XP D a sl h q x =>
  h1 σ ρ Hb0 H0 n0 Hb H n _ XP _ a sl h ⟨fun ρ' σ' n' Hb' H' e s sl' p => h2 σ' ρ' Hb0 H0 n0 Hb' H' n' DD XP D s sl' p (q.up e) x, q.rt, q.bk, q.ct⟩ x
theorem rds_next : RdS K T S E tNext xsNext := fun σ ρ Hb0 H0 n0 Hb H n DD XP D a sl h q x => q.nx ρ σ n Hb H (Ex.refl _) a sl h
theorem rds_set {i : Nat} (h1 : DL.Rd K T S E te FE) : RdS K T S E (tAsg te (gName i)) (xsSet i FE) := fun σ ρ Hb0 H0 n0 Hb H n DD XP D a sl h q x =>
  h1 σ ρ Hb H n _ XP _ a.wd sl.sl h (fun d v n1 Hb1 H1 s hd p => q.nx _ _ n1 Hb1 H1 s.ex (a.trans s) ((sl.step s).set hd) p) (x.step a)
theorem rds_ret (h1 : DL.Rd K T S E te FE) : RdS K T S E (tRet te) (xsRet FE) := fun σ ρ Hb0 H0 n0 Hb H n DD XP D a sl h q x => h1 σ ρ Hb H n _ XP _ a.wd sl.sl h (q.rt.step a) (x.step a)
theorem rds_retN : RdS K T S E tRetN xsRetN := fun σ ρ Hb0 H0 n0 Hb H n DD XP D a sl h q x => (q.rt.step a).now a.wd .non h
theorem rds_if {c : TT} {FT : DTT} (hc : RdT K T S E c FT) (h1 : RdS K T S E t F) (h2 : RdS K T S E u G) : RdS K T S E (tIfS c t u) (xsIf FT F G) := fun σ ρ Hb0 H0 n0 Hb H n DD XP D a sl h q x =>
  hc σ ρ Hb H n _ XP _ a.wd sl.sl h (fun b n1 Hb1 H1 s p => by
    cases b with
    | true => exact iteT (h1 σ ρ Hb0 H0 n0 Hb1 H1 n1 _ XP _ (a.trans s) (sl.step s) p (q.up s.ex) x)
    | false => exact iteF (h2 σ ρ Hb0 H0 n0 Hb1 H1 n1 _ XP _ (a.trans s) (sl.step s) p (q.up s.ex) x)) (x.step a)
theorem rds_drop (h1 : DL.Rd K T S E te FE) : RdS K T S E (tDrop te) (xsDrop FE) := fun σ ρ Hb0 H0 n0 Hb H n DD XP D a sl h q x =>
  h1 σ ρ Hb H n _ XP _ a.wd sl.sl h (fun d v n1 Hb1 H1 s hd p => q.nx _ _ n1 Hb1 H1 s.ex (a.trans s) (sl.step s) p) (x.step a)
/-- a, b = e1, e2 -/
def xsPar (i j : Nat) (G : DTA) : DTS := fun DD ρ n XP => G ρ n (fun ss n1 => match ss with | [.d a, .d b] => DD.nx ((ρ.set i (.d a)).set j (.d b)) n1 | _ => False) XP
theorem Args.one {ss : List SV} {vs : List V} {d : D} (h : Args K S Hb H n [.d d] vs) : ∃ v, vs = [v] ∧ Dn K Hb v d := by
  cases h with
  | cons h1 h2 =>
    cases h2
    obtain ⟨_, e, hv⟩ := h1
    cases e
    exact ⟨_, rfl, hv⟩
theorem Args.two {ss : List SV} {vs : List V} {d e : D} (h : Args K S Hb H n [.d d, .d e] vs) : ∃ v u, vs = [v, u] ∧ Dn K Hb v d ∧ Dn K Hb u e := by
  cases h with
  | cons h1 h2 =>
    obtain ⟨u, rfl, hu⟩ := Args.one (ss := []) h2
    obtain ⟨_, e, hv⟩ := h1
    cases e
    exact ⟨_, _, rfl, hv, hu⟩
theorem rds_par {i j : Nat} {ta : TA} {GA : DTA} (h1 : RdA K T S E ta GA) : RdS K T S E (tPar i j ta) (xsPar i j GA) := fun σ ρ Hb0 H0 n0 Hb H n DD XP D a sl h q x =>
  h1 σ ρ Hb H n _ XP _ a.wd sl.sl h (fun ss vs n1 Hb1 H1 s ha p => by
    match ss, ha, p with
    | [.d d1, .d d2], ha, p =>
      obtain ⟨v, u, rfl, hv, hu⟩ := Args.two (ss := []) ha
      exact ⟨v, u, rfl, q.nx _ _ n1 Hb1 H1 s.ex (a.trans s) (((sl.step s).set hv).set hu) p⟩) (x.step a)
/-- raise C('..') -/
def xsRaise (C : Addr) : DTS := fun _ _ n XP => XP C [] [] n
theorem rds_raise {C : Addr} : RdS K T S E (fun _ σ H => E (.ref C) none H) (xsRaise C) := fun σ ρ Hb0 H0 n0 Hb H n DD XP D a sl h q x =>
  x C [] [] n none Hb H a ⟨[], .inl ⟨rfl, rfl⟩, rfl, .nil⟩ h
/-- code that is never reached -/
def xsNever : DTS := fun _ _ _ _ => False
theorem rds_never {t : TS} : RdS K T S E t xsNever := fun _ _ _ _ _ _ _ _ _ _ _ _ _ h => h.elim

/-! ### targets -/
abbrev DTG := D → List SV → (List SV → Prop) → Prop
def RdG (K : PySem.W.Frag) (T : Tb) (S : SA) (vs : List Nat) (g : TG) (G : DTG) : Prop :=
  ∀ v d σ ρ H0 Hb H n P Q, World T S Hb H → Sl0 K S H0 Hb H n ρ σ → Dn K Hb v d → G d ρ P → (∀ ρ' σ', Sl0 K S H0 Hb H n ρ' σ' → wipe σ' vs = wipe σ vs → P ρ' → Q σ' H) → g v σ H Q
theorem wipe_set {σ : L2.St} {i : Nat} {o : Option V} : ∀ {vs : List Nat}, i ∈ vs → wipe (σ.set i o) vs = wipe σ vs
  | v :: vs, h => by
    unfold wipe
    by_cases hv : i ∈ vs
    · rw [wipe_set hv]
    · have e : i = v := by
        rcases List.mem_cons.mp h with e | e
        · exact e
        · exact absurd e hv
      subst e
      have z : ∀ {ws : List Nat}, i ∉ ws → (wipe (σ.set i o) ws) = (wipe σ ws).set i o := by
        intro ws
        induction ws with
        | nil => intro _; rfl
        | cons w ws ih =>
          intro hw
          have h1 : i ≠ w := fun e => hw (by rw [e]; exact List.mem_cons_self)
          have h2 : i ∉ ws := fun m => hw (List.mem_cons_of_mem _ m)
          unfold wipe
          rw [ih h2, List.set_comm _ _ h1]
      rw [z hv, List.set_set]
def xgName (i : Nat) : DTG := fun d ρ P => P (ρ.set i (.d d))
theorem rdg_name {i : Nat} {vs : List Nat} (h : i ∈ vs) : RdG K T S vs (gName i) (xgName i) := fun v d σ ρ H0 Hb H n P Q w sl hd p q => q _ _ (sl.set hd) (wipe_set h) p
def xgTwo (i j : Nat) : DTG := fun d ρ P => match d with
  | .tup [a, b] => P ((ρ.set i (.d a)).set j (.d b))
  | _ => False
theorem rdg_two {i j : Nat} {vs : List Nat} (h : i ∈ vs) (h' : j ∈ vs) : RdG K T S vs (gTup K 2 (gCons (gName i) (gCons (gName j) gNil))) (xgTwo i j) := fun v d σ ρ H0 Hb H n P Q w sl hd p q => by
  cases hd with
  | @tup a xs ds h1 h2 =>
    cases h2 with
    | nil => exact p.elim
    | @cons v1 vs1 d1 ds1 g1 g2 =>
      cases g2 with
      | nil => exact p.elim
      | @cons v2 vs2 d2 ds2 g3 g4 =>
        cases g4 with
        | cons _ _ => exact p.elim
        | nil => exact ⟨a, [v1, v2], rfl, ex_t w.ex h1, rfl, v1, [v2], rfl, v2, [], rfl, rfl, q _ _ ((sl.set g1).set g3) (by rw [wipe_set h', wipe_set h]) p⟩
  | _ => exact p.elim

/-! ### what is walked -/
/-- J gives the items ds, one by one; an item may be a new object -/
def SrcOk (K : PySem.W.Frag) (J : It) (Hb0 : Hp) (ds : List D) : Prop :=
  ∀ Hb H (i : Nat), Ex Hb0 Hb → Ex Hb H → (ds.length ≤ i → J.stop i H) ∧ ∀ d, ds[i]? = some d → J.go i H ∧ ∀ x H', J.yld i H x H' →
    (H' = H ∧ Dn K Hb x d) ∨ ∃ p o, H p = none ∧ H' = upd H p o ∧ (∀ ps, o ≠ .tbl ps) ∧ Dn K (upd Hb p o) x d
abbrev DTI := List SV → Nat → (List D → Nat → Prop) → DX → Prop
def RdI (K : PySem.W.Frag) (T : Tb) (S : SA) (E : XK) (wi : TI) (F : DTI) : Prop :=
  ∀ σ ρ Hb H n P XP R, World T S Hb H → Slots K S Hb H n ρ σ → F ρ n P XP → (∀ ds n' Hb' H' J, Stp K T S Hb H n Hb' H' n' → SrcOk K J Hb' ds → P ds n' → R J H') → XOk K T S Hb H n XP E → wi σ H R
theorem src_list {a : Addr} {xs : List V} {ds : List D} (h : SqL K Hb a xs) (hd : DnA K Hb xs ds) : SrcOk K (Itl K a) Hb ds := fun Hb1 H1 i e1 e2 => by
  have h1 := ex_l e2 (ex_l e1 h)
  refine ⟨fun hi => ⟨xs, h1, by rw [hd.len]; exact hi⟩, fun d e => ?_⟩
  obtain ⟨v, ev, hv⟩ := hd.get e
  refine ⟨⟨xs, v, h1, ev⟩, fun x H' y => .inl ⟨y.1, ?_⟩⟩
  have z := y.2 xs h1
  rw [ev] at z
  cases z
  exact hv.up e1
theorem src_tup {a : Addr} {xs : List V} {ds : List D} (h : SqT K Hb a xs) (hd : DnA K Hb xs ds) : SrcOk K (Itt K a) Hb ds := fun Hb1 H1 i e1 e2 => by
  have h1 := ex_t e2 (ex_t e1 h)
  refine ⟨fun hi => ⟨xs, h1, by rw [hd.len]; exact hi⟩, fun d e => ?_⟩
  obtain ⟨v, ev, hv⟩ := hd.get e
  refine ⟨⟨xs, v, h1, ev⟩, fun x H' y => .inl ⟨y.1, ?_⟩⟩
  have z := y.2 xs h1
  rw [ev] at z
  cases z
  exact hv.up e1
def rangeD (lo : Int) (m : Nat) : List D := (List.range m).map fun (i : Nat) => D.int (lo + (i : Int))
theorem src_range {lo : Int} {m : Nat} : SrcOk K (Itr lo m) Hb (rangeD lo m) := fun Hb1 H1 i e1 e2 => by
  refine ⟨fun hi => (by unfold rangeD at hi; simpa using hi : m ≤ i), fun d e => ?_⟩
  have hi : i < m := by
    have := (List.getElem?_eq_some_iff.mp e).1
    unfold rangeD at this
    simpa using this
  refine ⟨hi, fun x H' y => .inl ⟨y.1, ?_⟩⟩
  unfold rangeD at e
  rw [List.getElem?_map, List.getElem?_range hi] at e
  cases e
  rw [y.2]
  exact .int _
/-- over a list or a tuple: told by the value -/
def iSeq (K : PySem.W.Frag) (tl : TE) : TI := fun σ H R => tl σ H fun x H1 => ∃ a, x = .ref a ∧ (((∃ xs, SqL K H1 a xs) ∧ R (Itl K a) H1) ∨ ((∃ xs, SqT K H1 a xs) ∧ R (Itt K a) H1))
def seqD : D → (List D → Prop) → Prop
  | .lst xs, k => k xs
  | .tup xs, k => k xs
  | _, _ => False
def xiSeq (F : DT) : DTI := fun ρ n P XP => F ρ n (fun d n1 => seqD d fun xs => P xs n1) XP
theorem rdi_list (h1 : DL.Rd K T S E te FE) : RdI K T S E (iList K te) (fun ρ n P XP => FE ρ n (fun d n1 => match d with | .lst xs => P xs n1 | _ => False) XP) := fun σ ρ Hb H n P XP R w sl h q x =>
  h1 σ ρ Hb H n _ XP _ w sl h (fun d v n1 Hb1 H1 s hd p => by
    cases hd with
    | @lst a xs ds g1 g2 => exact ⟨a, rfl, ⟨xs, ex_l s.wd.ex g1⟩, q ds n1 Hb1 H1 _ s (src_list g1 g2) p⟩
    | _ => exact p.elim) x
theorem rdi_tup (h1 : DL.Rd K T S E te FE) : RdI K T S E (iTup K te) (fun ρ n P XP => FE ρ n (fun d n1 => match d with | .tup xs => P xs n1 | _ => False) XP) := fun σ ρ Hb H n P XP R w sl h q x =>
  h1 σ ρ Hb H n _ XP _ w sl h (fun d v n1 Hb1 H1 s hd p => by
    cases hd with
    | @tup a xs ds g1 g2 => exact ⟨a, rfl, ⟨xs, ex_t s.wd.ex g1⟩, q ds n1 Hb1 H1 _ s (src_tup g1 g2) p⟩
    | _ => exact p.elim) x
def xiList (F : DT) : DTI := fun ρ n P XP => F ρ n (fun d n1 => match d with | .lst xs => P xs n1 | _ => False) XP
def xiTup (F : DT) : DTI := fun ρ n P XP => F ρ n (fun d n1 => match d with | .tup xs => P xs n1 | _ => False) XP
def xiRange1 (G : DTA) : DTI := fun ρ n P XP => G ρ n (fun ss n1 => match ss with | [.d (.int j)] => j < 2 ^ 62 ∧ -(2 ^ 62) ≤ j ∧ P (rangeD 0 j.toNat) n1 | _ => False) XP
def xiRange2 (G : DTA) : DTI := fun ρ n P XP => G ρ n (fun ss n1 => match ss with | [.d (.int i), .d (.int j)] => (-(2 ^ 62) ≤ i ∧ i < 2 ^ 62 ∧ -(2 ^ 62) ≤ j ∧ j < 2 ^ 62) ∧ P (rangeD i (j - i).toNat) n1 | _ => False) XP
theorem rdi_range1 {ta : TA} {GA : DTA} (h1 : RdA K T S E ta GA) : RdI K T S E (iRng1 ta) (xiRange1 GA) := fun σ ρ Hb H n P XP R w sl h q x =>
  h1 σ ρ Hb H n _ XP _ w sl h (fun ss vs n1 Hb1 H1 s ha p => by
    match ss, ha, p with
    | [.d (.int j)], ha, p =>
      obtain ⟨v, rfl, hv⟩ := Args.one (ss := []) ha
      cases hv
      exact ⟨j, rfl, p.2.1, p.1, q _ n1 Hb1 H1 _ s src_range p.2.2⟩) x
theorem rdi_range2 {ta : TA} {GA : DTA} (h1 : RdA K T S E ta GA) : RdI K T S E (iRng2 ta) (xiRange2 GA) := fun σ ρ Hb H n P XP R w sl h q x =>
  h1 σ ρ Hb H n _ XP _ w sl h (fun ss vs n1 Hb1 H1 s ha p => by
    match ss, ha, p with
    | [.d (.int i), .d (.int j)], ha, p =>
      obtain ⟨v, u, rfl, hv, hu⟩ := Args.two (ss := []) ha
      cases hv
      cases hu
      exact ⟨i, j, rfl, p.1, q _ n1 Hb1 H1 _ s src_range p.2⟩) x
end
end DL

namespace DL
open L2 PySem PySem.Spec PyProof.Rows
open Evl (Ex ex_l ex_t sz_of)
section
variable {K : PySem.W.Frag} {T : Tb} {S : SA} {E : XK} {Hb H Hb1 H1 : Hp} {n n1 : Nat} {te : TE} {FE : DT}
/-! ### zip of two lists, of two tuples -/
def zipD (xs ys : List D) : List D := (xs.zip ys).map fun p => D.tup [p.1, p.2]
theorem zipD_get {xs ys : List D} {i : Nat} {d : D} (h : (zipD xs ys)[i]? = some d) : ∃ x y, xs[i]? = some x ∧ ys[i]? = some y ∧ d = .tup [x, y] := by
  unfold zipD at h
  rw [List.getElem?_map] at h
  cases e : (xs.zip ys)[i]? with
  | none => rw [e] at h; cases h
  | some p =>
    rw [e] at h
    cases h
    rw [List.getElem?_zip_eq_some] at e
    exact ⟨p.1, p.2, e.1, e.2, rfl⟩
theorem src_zipL {a b : Addr} {xs ys : List V} {ds es : List D} (h : SqL K Hb a xs) (hd : DnA K Hb xs ds) (g : SqL K Hb b ys) (gd : DnA K Hb ys es) : SrcOk K (Itz K a b) Hb (zipD ds es) := fun Hb1 H1 i e1 e2 => by
  have h1 := ex_l e2 (ex_l e1 h)
  have g1 := ex_l e2 (ex_l e1 g)
  refine ⟨fun hi => ⟨xs, ys, h1, g1, ?_⟩, fun d e => ?_⟩
  · unfold zipD at hi
    rw [List.length_map, List.length_zip] at hi
    rw [hd.len, gd.len]
    omega
  · obtain ⟨x, y, ex, ey, rfl⟩ := zipD_get e
    obtain ⟨v, ev, hv⟩ := hd.get ex
    obtain ⟨u, eu, hu⟩ := gd.get ey
    refine ⟨⟨xs, ys, v, u, h1, g1, ev, eu⟩, fun z H' q => ?_⟩
    obtain ⟨p, x', y', rfl, hp, rfl, f1, f2⟩ := q
    have z1 := f1 xs h1
    have z2 := f2 ys g1
    rw [ev] at z1
    rw [eu] at z2
    cases z1
    cases z2
    have ex := Ex.new (o := .tup [v, u]) (free_of e2 hp)
    exact .inr ⟨p, _, hp, rfl, (fun _ z => by cases z), .tup (SqT.of upd_same) (.cons ((hv.up e1).up ex) (.cons ((hu.up e1).up ex) .nil))⟩
theorem src_zipT {a b : Addr} {xs ys : List V} {ds es : List D} (h : SqT K Hb a xs) (hd : DnA K Hb xs ds) (g : SqT K Hb b ys) (gd : DnA K Hb ys es) : SrcOk K (RZ.ItzT K a b) Hb (zipD ds es) := fun Hb1 H1 i e1 e2 => by
  have h1 := ex_t e2 (ex_t e1 h)
  have g1 := ex_t e2 (ex_t e1 g)
  refine ⟨fun hi => ⟨xs, ys, h1, g1, ?_⟩, fun d e => ?_⟩
  · unfold zipD at hi
    rw [List.length_map, List.length_zip] at hi
    rw [hd.len, gd.len]
    omega
  · obtain ⟨x, y, ex, ey, rfl⟩ := zipD_get e
    obtain ⟨v, ev, hv⟩ := hd.get ex
    obtain ⟨u, eu, hu⟩ := gd.get ey
    refine ⟨⟨xs, ys, v, u, h1, g1, ev, eu⟩, fun z H' q => ?_⟩
    obtain ⟨p, x', y', rfl, hp, rfl, f1, f2⟩ := q
    have z1 := f1 xs h1
    have z2 := f2 ys g1
    rw [ev] at z1
    rw [eu] at z2
    cases z1
    cases z2
    have ex := Ex.new (o := .tup [v, u]) (free_of e2 hp)
    exact .inr ⟨p, _, hp, rfl, (fun _ z => by cases z), .tup (SqT.of upd_same) (.cons ((hv.up e1).up ex) (.cons ((hu.up e1).up ex) .nil))⟩
def xiZip (G : DTA) : DTI := fun ρ n P XP => G ρ n (fun ss n1 => match ss with
  | [.d (.lst xs), .d (.lst ys)] => P (zipD xs ys) n1
  | [.d (.tup xs), .d (.tup ys)] => P (zipD xs ys) n1
  | _ => False) XP
theorem rdi_zip {ta : TA} {GA : DTA} (h1 : RdA K T S E ta GA) : RdI K T S E (RZ.iZipA K ta) (xiZip GA) := fun σ ρ Hb H n P XP R w sl h q x =>
  h1 σ ρ Hb H n _ XP _ w sl h (fun ss vs n1 Hb1 H1 s ha p => by
    match ss, ha, p with
    | [.d (.lst xs), .d (.lst ys)], ha, p =>
      obtain ⟨v, u, rfl, hv, hu⟩ := Args.two (ss := []) ha
      cases hv with
      | @lst a as ds g1 g2 =>
        cases hu with
        | @lst b bs es g3 g4 => exact ⟨a, b, as, bs, rfl, .inl ⟨ex_l s.wd.ex g1, ex_l s.wd.ex g3, q _ n1 Hb1 H1 _ s (src_zipL g1 g2 g3 g4) p⟩⟩
    | [.d (.tup xs), .d (.tup ys)], ha, p =>
      obtain ⟨v, u, rfl, hv, hu⟩ := Args.two (ss := []) ha
      cases hv with
      | @tup a as ds g1 g2 =>
        cases hu with
        | @tup b bs es g3 g4 => exact ⟨a, b, as, bs, rfl, .inr ⟨ex_t s.wd.ex g1, ex_t s.wd.ex g3, q _ n1 Hb1 H1 _ s (src_zipT g1 g2 g3 g4) p⟩⟩) x

/-- an item's step -/
theorem item_step {x : V} {d : D} {H' : Hp} (w : World T S Hb H) (h : (H' = H ∧ Dn K Hb x d) ∨ ∃ p o, H p = none ∧ H' = upd H p o ∧ (∀ ps, o ≠ .tbl ps) ∧ Dn K (upd Hb p o) x d) : ∃ Hb', Stp K T S Hb H n Hb' H' n ∧ Dn K Hb' x d := by
  rcases h with ⟨rfl, h⟩ | ⟨p, o, hp, rfl, ho, h⟩
  · exact ⟨Hb, .refl w, h⟩
  · exact ⟨_, .new w hp ho, h⟩

/-! ### for -/
def xsFor (FI : DTI) (G : DTG) (B : DTS) : DTS := fun DD ρ n XP => FI ρ n (fun xs n1 => ∃ I : Nat → List SV → Nat → Prop, I 0 ρ n1 ∧
  (∀ i x ρ n, xs[i]? = some x → I i ρ n → G x ρ fun ρ2 => B { DD with nx := I (i + 1), ct := I (i + 1), bk := DD.nx } ρ2 n XP) ∧ ∀ ρ n, I xs.length ρ n → DD.nx ρ n) XP
theorem rds_for {wi : TI} {g : TG} {tb : TS} {FI : DTI} {G : DTG} {B : DTS} {vs : List Nat} (hi : RdI K T S E wi FI) (hg : RdG K T S vs g G) (hb : RdS K T S E tb B) : RdS K T S E (tFor wi g tb) (xsFor FI G B) := fun σ ρ Hb0 H0 n0 Hb H n DD XP D a sl h q x =>
  hi σ ρ Hb H n _ XP _ a.wd sl.sl h (fun xs n1 Hb1 H1 J s src p => by
    obtain ⟨I, i0, it, ie⟩ := p
    have b := a.trans s
    -- what is frozen at the loop's start stays
    refine ⟨fun i m σ2 H2 => m = xs.length - i ∧ i ≤ xs.length ∧ ∃ ρ2 n2 Hb2, Ex Hb1 Hb2 ∧ Stp K T S Hb0 H0 n0 Hb2 H2 n2 ∧ Sl0 K S H0 Hb2 H2 n2 ρ2 σ2 ∧ I i ρ2 n2, ⟨xs.length, rfl, Nat.zero_le _, ρ, n1, Hb1, Ex.refl _, b, sl.step s, i0⟩, ?_⟩
    rintro i m σ2 H2 ⟨rfl, hi2, ρ2, n2, Hb2, e2, s2, sl2, hI⟩
    obtain ⟨stop, go⟩ := src Hb2 H2 i e2 s2.wd.ex
    by_cases hlt : i < xs.length
    · have ex : xs[i]? = some xs[i] := List.getElem?_eq_getElem hlt
      obtain ⟨hgo, hy⟩ := go _ ex
      refine .inr ⟨hgo, fun σ' H' => ∃ ρ' n' Hb', Ex Hb1 Hb' ∧ Stp K T S Hb0 H0 n0 Hb' H' n' ∧ Sl0 K S H0 Hb' H' n' ρ' σ' ∧ I (i + 1) ρ' n', fun σ' H' hN => ⟨xs.length - (i + 1), by omega, rfl, hlt, hN⟩, fun v H' y => ?_⟩
      obtain ⟨Hb3, s3, hv⟩ := item_step (K := K) (n := n2) s2.wd (hy v H' y)
      refine hg v _ σ2 ρ2 H0 Hb3 H' n2 _ _ s3.wd (sl2.step s3) hv (it i _ ρ2 n2 ex hI) fun ρ3 σ3 sl3 _ hB => ?_
      have e3 := e2.trans s3.ex
      exact hb σ3 ρ3 Hb0 H0 n0 Hb3 H' n2 _ XP _ (s2.trans s3) sl3 hB ⟨fun ρ4 σ4 n4 Hb4 H4 e4 s4 sl4 p4 => ⟨ρ4, n4, Hb4, e3.trans e4, s4, sl4, p4⟩, q.rt, q.nx.up (s.ex.trans e3), fun ρ4 σ4 n4 Hb4 H4 e4 s4 sl4 p4 => ⟨ρ4, n4, Hb4, e3.trans e4, s4, sl4, p4⟩⟩ x
    · have e : i = xs.length := by omega
      subst e
      exact .inl ⟨stop (Nat.le_refl _), q.nx ρ2 σ2 n2 Hb2 H2 (s.ex.trans e2) s2 sl2 (ie ρ2 n2 hI)⟩) (x.step a)

/-! ### comprehensions -/
def compM (step : D → Nat → (Option D → Nat → Prop) → Prop) : List D → Nat → (List D → Nat → Prop) → Prop
  | [], n, P => P [] n
  | x :: xs, n, P => step x n fun o n' => compM step xs n' fun ds n'' => P (match o with | some d => d :: ds | none => ds) n''
def xtYes : DTT := fun _ n P _ => P true n
theorem rdt_yes {E : XK} : RdT K T S E tYes xtYes := fun σ ρ Hb H n P XP Q w sl h q x => q true n Hb H (.refl w) h
theorem wipe_wipe {σ : L2.St} {vs : List Nat} : wipe (wipe σ vs) vs = wipe σ vs := by
  have z : ∀ ws : List Nat, (∀ i ∈ ws, i ∈ vs) → wipe (wipe σ ws) vs = wipe σ vs := by
    intro ws
    induction ws with
    | nil => intro _; rfl
    | cons w ws ih =>
      intro h
      show wipe ((wipe σ ws).set w none) vs = wipe σ vs
      rw [wipe_set (h w List.mem_cons_self), ih fun i hi => h i (List.mem_cons_of_mem _ hi)]
  exact z vs fun _ h => h
/-- what gives a new list, not frozen yet -/
abbrev DTL := List SV → Nat → (List D → Nat → Prop) → DX → Prop
def RdN (K : PySem.W.Frag) (T : Tb) (S : SA) (E : XK) (te : TE) (F : DTL) : Prop :=
  ∀ σ ρ Hb H n P XP (Q : VK), World T S Hb H → Slots K S Hb H n ρ σ → F ρ n P XP →
    (∀ ds p vs n' Hb' H', Stp K T S Hb H n Hb' H' n' → Fresh H p → H' p = some (.lst vs) → Hb' p = none → DnA K Hb' vs ds → P ds n' → Q (.ref p) H') → XOk K T S Hb H n XP E → te σ H Q
def xnLc (FI : DTI) (G : DTG) (FT : DTT) (FE : DT) (vs : List Nat) : DTL := fun ρ n P XP => FI ρ n (fun xs n1 => xs.length ≤ 100000 ∧
  compM (fun x n2 k => G x (wipeS ρ vs) fun ρ2 => FT ρ2 n2 (fun b n3 => match b with | true => FE ρ2 n3 (fun d n4 => k (some d) n4) xF | false => k none n3) xF) xs n1 P) XP
/-- J gives the items while steps of ours are made -/
def SrcJ (K : PySem.W.Frag) (T : Tb) (S : SA) (J : It) (Hb0 H0 : Hp) (n0 : Nat) (ds : List D) : Prop :=
  ∀ Hb H n (i : Nat), Stp K T S Hb0 H0 n0 Hb H n → (ds.length ≤ i → J.stop i H) ∧ ∀ d, ds[i]? = some d → J.go i H ∧ ∀ x H', J.yld i H x H' →
    (H' = H ∧ Dn K Hb x d) ∨ ∃ p o, H p = none ∧ H' = upd H p o ∧ (∀ ps, o ≠ .tbl ps) ∧ Dn K (upd Hb p o) x d
def RdJ (K : PySem.W.Frag) (T : Tb) (S : SA) (E : XK) (wi : TI) (F : DTI) : Prop :=
  ∀ σ ρ Hb H n P XP R, World T S Hb H → Slots K S Hb H n ρ σ → F ρ n P XP → (∀ ds n' Hb' H' J, Stp K T S Hb H n Hb' H' n' → SrcJ K T S J Hb' H' n' ds → P ds n' → R J H') → XOk K T S Hb H n XP E → wi σ H R
theorem rdj_of {wi : TI} {F : DTI} (h : RdI K T S E wi F) : RdJ K T S E wi F := fun σ ρ Hb H n P XP R w sl hf q x =>
  h σ ρ Hb H n P XP R w sl hf (fun ds n' Hb' H' J s src p => q ds n' Hb' H' J s (fun Hb2 H2 n2 i s2 => src Hb2 H2 i s2.ex s2.wd.ex) p) x
/-- over a list of one's own -/
def xjOwn (i : Nat) : DTI := fun ρ n P _ => match ρ[i]? with
  | some (.ol xs) => P xs n
  | _ => False
theorem rdj_own {i : Nat} : RdJ K T S E (iList K (tVar i)) (xjOwn i) := fun σ ρ Hb H n P XP R w sl h q x => by
  unfold xjOwn at h
  split at h
  · rename_i xs e
    obtain ⟨o, e1, p, vs, e2, e3, e4, e5, e6, _, e7⟩ := sl.ok i _ e
    refine ⟨.ref p, by rw [e1, e2], p, rfl, ⟨vs, SqL.of e3⟩, q xs n Hb H _ (.refl w) (fun Hb2 H2 n2 j s2 => ?_) h⟩
    obtain ⟨g1, g2⟩ := s2.own p _ e3 e4 e5 e6 (fun ps z => by cases z)
    have h7 := e7.up s2.ex
    refine ⟨fun hj => ⟨vs, SqL.of g1, by rw [h7.len]; exact hj⟩, fun d ed => ?_⟩
    obtain ⟨v, ev, hv⟩ := h7.get ed
    refine ⟨⟨vs, v, SqL.of g1, ev⟩, fun y H' yy => .inl ⟨yy.1, ?_⟩⟩
    have z := yy.2 vs (SqL.of g1)
    rw [ev] at z
    cases z
    exact hv
  · exact h.elim
theorem rdn_lc {wi : TI} {g : TG} {tt : TT} {FI : DTI} {G : DTG} {FT : DTT} {vs : List Nat} (hi : RdJ K T S E wi FI) (hg : RdG K T S vs g G) (ht : RdT K T S E0 tt FT) (he : DL.Rd K T S E0 te FE) : RdN K T S E (tLc wi g tt te vs) (xnLc FI G FT FE vs) := fun σ ρ Hb H n P XP Q w sl h q x =>
  hi σ ρ Hb H n _ XP _ w sl h (fun xs n1 Hb1 H1 J s src p => by
    obtain ⟨hlen, p⟩ := p
    intro L hL
    have nSa : L ≠ S.a := s.wd.sa.ne (fresh_none hL)
    have nSl : L ≠ S.l := s.wd.sl.ne (fresh_none hL)
    have nSc : L ≠ S.c := s.wd.sc.ne (fresh_none hL)
    refine ⟨fun i m H2 => m = xs.length - i ∧ i ≤ xs.length ∧ ∃ n2 Hb2 accV acc, Stp K T S Hb1 H1 n1 Hb2 H2 n2 ∧ H2 L = some (.lst accV) ∧ Hb2 L = none ∧ DnA K Hb2 accV acc ∧ acc.length ≤ i ∧
      compM (fun x n2 k => G x (wipeS ρ vs) fun ρ2 => FT ρ2 n2 (fun b n3 => match b with | true => FE ρ2 n3 (fun d n4 => k (some d) n4) xF | false => k none n3) xF) (xs.drop i) n2 fun ds n5 => P (acc ++ ds) n5,
      ⟨xs.length, rfl, Nat.zero_le _, n1, Hb1, [], [], .newO s.wd hL, upd_same, free_of s.wd.ex hL, .nil, Nat.le_refl _, p⟩, ?_⟩
    rintro i m H2 ⟨rfl, hi2, n2, Hb2, accV, acc, s2, eL, fL, hacc, la, hc⟩
    obtain ⟨stop, go⟩ := src Hb2 H2 n2 i s2
    by_cases hlt : i < xs.length
    · have ex : xs[i]? = some xs[i] := List.getElem?_eq_getElem hlt
      obtain ⟨hgo, hy⟩ := go _ ex
      have ed : xs.drop i = xs[i] :: xs.drop (i + 1) := List.drop_eq_getElem_cons hlt
      rw [ed] at hc
      refine .inr ⟨hgo, fun H' => ∃ n' Hb' accV acc, Stp K T S Hb1 H1 n1 Hb' H' n' ∧ H' L = some (.lst accV) ∧ Hb' L = none ∧ DnA K Hb' accV acc ∧ acc.length ≤ i + 1 ∧
        compM (fun x n2 k => G x (wipeS ρ vs) fun ρ2 => FT ρ2 n2 (fun b n3 => match b with | true => FE ρ2 n3 (fun d n4 => k (some d) n4) xF | false => k none n3) xF) (xs.drop (i + 1)) n' fun ds n5 => P (acc ++ ds) n5,
        fun H' hN => ⟨xs.length - (i + 1), by omega, rfl, hlt, hN⟩, fun v H' y => ?_⟩
      obtain ⟨Hb3, s3, hv⟩ := item_step (n := n2) s2.wd (hy v H' y)
      have st3 := s2.trans s3
      have sl3 : Sl0 K S (fun _ => none) Hb3 H' n2 (wipeS ρ vs) (wipe σ vs) := ⟨((sl.step s).step st3).wiped vs, fun _ _ _ _ _ _ => fresh_none rfl⟩
      have ne : ∀ ps, HO.lst accV ≠ .tbl ps := fun ps z => by cases z
      refine hg v _ (wipe σ vs) (wipeS ρ vs) _ Hb3 H' n2 _ _ s3.wd sl3 hv hc fun ρ4 σ4 sl4 hw hT => ⟨hw.trans wipe_wipe, ?_⟩
      obtain ⟨eL3, fL3⟩ := s3.own L _ eL fL nSa nSl ne
      refine ht σ4 ρ4 Hb3 H' n2 _ xF _ s3.wd sl4.sl hT (fun b n4 Hb4 H4 s4 p4 => ?_) XOk.none
      obtain ⟨eL4, fL4⟩ := s4.own L _ eL3 fL3 nSa nSl ne
      have hacc4 := (hacc.up s3.ex).up s4.ex
      cases b with
      | false => exact iteF ⟨n4, Hb4, accV, acc, st3.trans s4, eL4, fL4, hacc4, Nat.le_succ_of_le la, p4⟩
      | true =>
        refine iteT ?_
        refine he σ4 ρ4 Hb4 H4 n4 _ xF _ s4.wd (sl4.sl.step s4) p4 (fun d u n5 Hb5 H5 s5 hu p5 => ?_) XOk.none
        obtain ⟨eL5, fL5⟩ := s5.own L _ eL4 fL4 nSa nSl ne
        have hacc5 := hacc4.up s5.ex
        have w5 := s5.wd
        have st5 := (st3.trans s4).trans s5
        have nT : ∀ q ∈ T, q.1 ≠ L := fun q hq z => by
          obtain ⟨ps, e, _⟩ := w5.tabs q hq
          rw [z, eL5] at e
          cases e
        refine ⟨accV, eL5, ?_, n5, Hb5, accV ++ [u], acc ++ [d], ?_, upd_same, fL5, hacc5.app (.one hu), by simp; omega, ?_⟩
        · rw [hacc5.len]
          exact Nat.lt_of_le_of_lt la (Nat.lt_of_lt_of_le hlt (sz_of hlen))
        · -- the list has grown
          refine ⟨st5.ex, ⟨fun b o e => ?_, fun q hq => ?_, w5.tb, ?_, ?_, ?_, w5.nt⟩, fun h0 => ?_, fun b o e1 e2 e3 e4 e5 => ?_, fun b e => st5.dm b (dm_upd (fun _ z => by cases z) b e)⟩
          · rw [upd_ne (fun z => by rw [z, fL5] at e; cases e)]
            exact w5.ex b o e
          · obtain ⟨ps, e, t1, t2⟩ := w5.tabs q hq
            refine ⟨ps, by rw [upd_ne (nT q hq)]; exact e, t1, fun pos cv hcv => ?_⟩
            obtain ⟨c, e1, e2⟩ := t2 pos cv hcv
            refine ⟨c, e1, ?_⟩
            rw [upd_ne (fun z => by rw [z, eL5] at e2; unfold LamX.CodeO at e2; cases e2)]
            exact e2
          · exact w5.sa.upd fun _ z => by cases z
          · exact w5.sl.upd fun _ z => by cases z
          · exact w5.sc.upd fun _ z => by cases z
          · obtain ⟨g1, g2, ls, cs, mm, t, g3, g4, g5, g6, g7, g8, rest⟩ := st5.st h0
            exact ⟨g1, g2, ls, cs, mm, t, g3, g4, g5, by rw [upd_ne nSa.symm]; exact g6, by rw [upd_ne nSl.symm]; exact g7, g8, rest⟩
          · have hb : b ≠ L := ne_of_none e1 hL
            rw [upd_ne hb]
            exact st5.own b o e1 e2 e3 e4 e5
        · have e6 : ∀ ds, (acc ++ [d]) ++ ds = acc ++ (d :: ds) := fun ds => by simp
          simp only [e6]
          exact p5
    · have e : i = xs.length := by omega
      subst e
      refine .inl ⟨stop (Nat.le_refl _), ?_⟩
      rw [List.drop_length] at hc
      have hc : P (acc ++ []) n2 := hc
      rw [List.append_nil] at hc
      exact q acc L accV n2 Hb2 H2 (s.trans s2) (s.dm L (fresh_none hL)) eL fL hacc hc) x

/-- an object of one's own is written, then frozen -/
theorem Stp.freeze {p : Addr} {o : HO} (s : Stp K T S Hb H n Hb1 H1 n1) (hp : Fresh H p) (fp : Hb1 p = none) (hx : H1 p ≠ none) (nt : ∀ ps, H1 p ≠ some (.tbl ps)) (nc : ∀ c q, H1 p ≠ some (LamX.CodeO c q)) (na : p ≠ S.a) (nl : p ≠ S.l) (nc2 : p ≠ S.c) (ho : ∀ ps, o ≠ .tbl ps := by intro _ z; cases z) : Stp K T S Hb H n (upd Hb1 p o) (upd H1 p o) n1 := by
  have w := s.wd
  refine ⟨s.ex.trans (Ex.new fp), ⟨fun b u e => ?_, fun q hq => ?_, fun q hq => ?_, ?_, ?_, ?_, nt_upd w.nt ho⟩, fun h0 => ?_, fun b u e1 e2 e3 e4 e5 => ?_, fun b e => s.dm b (dm_upd ho b e)⟩
  · by_cases hb : b = p
    · rw [hb, upd_same] at e ⊢
      exact e
    · rw [upd_ne hb] at e ⊢
      exact w.ex b u e
  · obtain ⟨ps, e, t1, t2⟩ := w.tabs q hq
    refine ⟨ps, by rw [upd_ne (fun z => nt ps (by rw [← z]; exact e))]; exact e, t1, fun pos cv hcv => ?_⟩
    obtain ⟨c, e1, e2⟩ := t2 pos cv hcv
    exact ⟨c, e1, by rw [upd_ne (fun z => nc c q.2 (by rw [← z]; exact e2))]; exact e2⟩
  · obtain ⟨ps, e, _⟩ := w.tabs q hq
    rw [upd_ne (fun z => nt ps (by rw [← z]; exact e))]
    exact w.tb q hq
  · exact w.sa.upd ho
  · exact w.sl.upd ho
  · exact w.sc.upd ho
  · obtain ⟨g1, g2, ls, cs, m, t, g3, g4, g5, g6, g7, g8, rest⟩ := s.st h0
    exact ⟨by rw [upd_ne na.symm]; exact g1, by rw [upd_ne nl.symm]; exact g2, ls, cs, m, t, g3, g4, g5, by rw [upd_ne na.symm]; exact g6, by rw [upd_ne nl.symm]; exact g7, by rw [upd_ne nc2.symm]; exact g8, rest⟩
  · have hb : b ≠ p := hp.ne e1 e5
    rw [upd_ne hb, upd_ne hb]
    exact s.own b u e1 e2 e3 e4 e5
theorem World.nS (w : World T S Hb H) {p : Addr} (hp : Fresh H p) : p ≠ S.a ∧ p ≠ S.l ∧ p ≠ S.c := ⟨w.sa.ne hp, w.sl.ne hp, w.sc.ne hp⟩
theorem codeO_no {c : Addr} {q : Str} {o : HO} (h : ∀ φ, o ≠ .ext φ) : o ≠ LamX.CodeO c q := fun z => by
  unfold LamX.CodeO at z
  exact h _ z
theorem rd_of_new {F : DTL} (h : RdN K T S E te F) : DL.Rd K T S E te (fun ρ n P XP => F ρ n (fun ds n1 => P (.lst ds) n1) XP) := fun σ ρ Hb H n P XP Q w sl hf q x =>
  h σ ρ Hb H n _ XP Q w sl hf (fun ds p vs n' Hb' H' s hp e1 e2 hd pp => by
    obtain ⟨n1, n2, n3⟩ := w.nS hp
    have z := s.freeze (o := .lst vs) hp e2 (by rw [e1]; exact fun z => by cases z) (fun ps z => by rw [e1] at z; cases z) (fun c u z => by rw [e1] at z; exact codeO_no (o := .lst vs) (fun _ z => by cases z) (Option.some.inj z)) n1 n2 n3
    have e : upd H' p (.lst vs) = H' := by
      funext b
      by_cases hb : b = p
      · rw [hb, upd_same, e1]
      · rw [upd_ne hb]
    rw [e] at z
    exact q _ _ n' _ _ z (.lst (SqL.of upd_same) (hd.up (Ex.new e2))) pp) x
def xLc (FI : DTI) (G : DTG) (FT : DTT) (FE : DT) (vs : List Nat) : DT := fun ρ n P XP => xnLc FI G FT FE vs ρ n (fun ds n1 => P (.lst ds) n1) XP
theorem rd_lc {wi : TI} {g : TG} {tt : TT} {FI : DTI} {G : DTG} {FT : DTT} {vs : List Nat} (hi : RdJ K T S E wi FI) (hg : RdG K T S vs g G) (ht : RdT K T S E0 tt FT) (he : DL.Rd K T S E0 te FE) : DL.Rd K T S E (tLc wi g tt te vs) (xLc FI G FT FE vs) := rd_of_new (rdn_lc hi hg ht he)
/-- y = [..], a list of one's own -/
def xsSetO (i : Nat) (F : DTL) : DTS := fun DD ρ n XP => F ρ n (fun ds n1 => DD.nx (ρ.set i (.ol ds)) n1) XP
end
end DL

namespace DL
open L2 PySem PySem.Spec PyProof.Rows
open Evl (Ex ex_l ex_t sz_of)
section
variable {K : PySem.W.Frag} {T : Tb} {S : SA} {E : XK} {Hb H Hb1 H1 : Hp} {n n1 : Nat} {te : TE} {FE : DT} {X : Cx}
/-! ### e.f -/
def fldD : List Str → List D → Str → Option D
  | k :: ks, d :: ds, f => if k = f then some d else fldD ks ds f
  | _, _, _ => none
theorem fld_of : ∀ {fs : List (Str × V)} {ns : List Str} {ds : List D} {f : Str} {d : D}, fs.map (·.1) = ns → DnA K H (fs.map (·.2)) ds → fldD ns ds f = some d → ∃ v, fs.lookup f = some v ∧ Dn K H v d
  | [], _, ds, f, d, e, h, g => by
    subst e
    unfold fldD at g
    simp at g
  | (k, v) :: fs, _, ds, f, d, e, h, g => by
    subst e
    cases h with
    | @cons _ _ d0 ds0 h1 h2 =>
      have g : (if k = f then some d0 else fldD (fs.map (·.1)) ds0 f) = some d := g
      by_cases hk : k = f
      · rw [if_pos hk] at g
        cases g
        subst hk
        exact ⟨v, by simp, h1⟩
      · rw [if_neg hk] at g
        obtain ⟨v', e2, h3⟩ := fld_of (ns := fs.map (·.1)) rfl h2 g
        refine ⟨v', ?_, h3⟩
        have hk' : (f == k) = false := by simpa using Ne.symm hk
        rw [List.lookup_cons, hk']
        exact e2
def xFld (K : PySem.W.Frag) (f : Str) (F : DT) : DT := fun ρ n P XP => F ρ n (fun d n1 => match d with
  | .ins C ns ds => NoAttr K C f ∧ ∃ x, fldD ns ds f = some x ∧ P x n1
  | _ => False) XP
theorem rd_fld {f : Str} (h1 : DL.Rd K T S E te FE) : DL.Rd K T S E (tFld K te f) (xFld K f FE) := fun σ ρ Hb H n P XP Q w sl h q x =>
  h1 σ ρ Hb H n _ XP _ w sl h (fun d v n1 Hb1 H1 s hd p => by
    cases hd with
    | @ins a C dx fs ns ds hc g1 g2 g3 =>
      obtain ⟨hn, y, e, p⟩ := p
      obtain ⟨v, e2, hv⟩ := fld_of g2 g3 e
      exact ⟨a, C, dx, fs, v, rfl, s.wd.ex _ _ g1, hc.cl, hn, e2, q _ _ n1 Hb1 H1 s hv p⟩
    | _ => exact p.elim) x
/-! ### isinstance -/
def tyD : D → Value
  | .non => .type "NoneType"
  | .bl _ => .type "bool"
  | .int _ => .type "int"
  | .str _ => .type "str"
  | .lst _ => .type "list"
  | .tup _ => .type "tuple"
  | .dic _ _ => .type "dict"
  | .ins C _ _ => .ref C
  | .exc C _ _ => .ref C
  | .fnv _ => .none
def rIsD (K : PySem.W.Frag) : List V → Hp → VK → Prop := fun xs H Q => rIsi K xs H Q ∨
  ∃ (a C : Addr) (od : Option Addr) (c : V) (u : Value) (b : Bool), xs = [.ref a, c] ∧ ClsV c u ∧ H a = some (ExT C od a) ∧ (∀ dd, od = some dd → ∃ o, H dd = some o) ∧ ExcC K C ∧ PySem.W.kitOne K (.ref C) u = some b ∧ Q (.bl b) H
theorem call_isD : CallR X (.builtin "isinstance") (rIsD X.K) := by
  refine CallR.or call_isi ?_
  intro pins s σ H xs us Q I r h
  obtain ⟨a, C, od, c, u, b, rfl, k, ha, hod, hc, e, q⟩ := h
  obtain ⟨u1, u2, rfl, r1, r2⟩ := vals2 r
  have e2 := k.eq r2
  subst e2
  cases r1
  obtain ⟨⟨oe, vs, h1, ⟨h2, h3⟩, h4⟩, _, _⟩ := I.hok a _ ha
  have hcl : (PySem.W.clsIn X.K C).isSome = true := by
    have z := hc.hd
    unfold PySem.W.hasDictIn at z
    cases q : PySem.W.clsIn X.K C with
    | none => rw [q] at z; cases z
    | some _ => rfl
  have J : ∃ oo, PySem.W.InstAt s.heap a oe C oo := by
    obtain ⟨oc, odd, oda, osl⟩ := oe
    dsimp only at h2 h3 h4
    subst h2 h3 h4
    cases odd with
    | none => exact ⟨none, h1, rfl, rfl, trivial⟩
    | some dd =>
      obtain ⟨o, ho⟩ := hod dd rfl
      obtain ⟨oo, hoo⟩ := objOk_get (I.hok dd o ho)
      exact ⟨some oo, h1, rfl, rfl, hoo⟩
  obtain ⟨oo, J⟩ := J
  exact PySem.W.kia_one (PySem.W.kitx_exc hcl hc.hg hc.hk hc.hs hc.ha hc.hn hc.ht hc.hm) I.kIn J e (fun z => nomatch z) fun tk => ⟨.bl b, H, I.kept (t' := tk) fun _ _ z => z, rfl, q⟩
theorem TyX.of {v : V} {d : D} (h : Dn K H v d) (he : ∀ C ns ds, d ≠ .exc C ns ds) (hf : ∀ f, d ≠ .fnv f) : TyX K H v (tyD d) := by
  cases h with
  | non => exact .base .non
  | bl b => exact .base (.bl b)
  | int i => exact .base (.int i)
  | str i => exact .base (.str i)
  | lst h1 h2 =>
    rcases h1 with (h1 | ⟨o, h1⟩) | ⟨o, its, m, h1, h3, _⟩
    · exact .base (.lst h1)
    · exact .base (.frz h1)
    · exact .kList h1 h3
  | tup h1 h2 =>
    rcases h1 with (h1 | ⟨o, h1⟩) | ⟨o, its, m, h1, h3, _⟩
    · exact .base (.tup h1)
    · exact .fTuple h1
    · exact .kTuple h1 h3
  | dic h1 h2 h3 => exact .base (.dK h1)
  | ins hc h1 h2 h3 => exact .base (.ins h1 hc.cl hc.ha hc.hn hc.ht hc.hm)
  | exc hc ht h1 h2 h3 h4 => exact (he _ _ _ rfl).elim
  | fnv f => exact (hf _ rfl).elim
/-- an exception without fields, for isinstance -/
def bareD : D → Prop
  | .fnv _ => False
  | _ => True
def xIs (K : PySem.W.Frag) (c : Value) (F : DT) : DT := fun ρ n P XP => F ρ n (fun d n1 => bareD d ∧ ∃ b, PySem.W.kitOne K (tyD d) c = some b ∧ P (.bl b) n1) XP
theorem rd_is {cv : V} {cu : Value} (hc : ClsV cv cu) (h1 : DL.Rd K T S E te FE) : DL.Rd K T S E (tCB (rIsD K) (tCons te (tCons (tC cv) tNil))) (xIs K cu FE) := fun σ ρ Hb H n P XP Q w sl h q x =>
  h1 σ ρ Hb H n _ XP _ w sl h (fun d v n1 Hb1 H1 s hd p => by
    obtain ⟨hb, b, e, p⟩ := p
    have fin : Q (.bl b) H1 := q _ _ n1 Hb1 H1 s (.bl b) p
    have hd1 := s.wd.dn hd
    show rIsD K [v, cv] H1 Q
    cases d with
    | exc C ns ds =>
      cases hd1 with
      | @exc a C od fs ns ds hC hT g1 g0 g2 g3 =>
        refine .inr ⟨a, C, od, cv, cu, b, rfl, hc, g1, fun dd ed => ?_, hC, e, fin⟩
        rcases g0 with g0 | ⟨d2, g0, hne, g4⟩
        · rw [g0.1] at ed
          cases ed
        · rw [g0] at ed
          cases ed
          exact ⟨_, g4⟩
    | fnv f => exact hb.elim
    | _ => exact .inl ⟨v, cv, _, cu, b, rfl, hc, TyX.of hd1 (fun _ _ _ z => by cases z) (fun _ z => by cases z), e, fin⟩) x

/-- isinstance of a built-in class -/
def isTy (t : String) : D → Bool
  | .int _ => t == "int"
  | .bl _ => t == "bool" || t == "int"
  | .str _ => t == "str"
  | .tup _ => t == "tuple"
  | .lst _ => t == "list"
  | .dic _ _ => t == "dict"
  | _ => false
theorem kit_isTy {t : String} (ht : t ∈ ["int", "bool", "str", "tuple", "list", "dict"]) {v : V} {d : D} (h : Dn K H v d) (hb : bareD d) : PySem.W.kitOne K (tyD d) (.type t) = some (isTy t d) := by
  have B : ∀ (a : String), kitB a t = some (if a = "NoneType" then false else if a = "bool" then (t == "bool" || t == "int") else t == a) → PySem.W.kitOne K (.type a) (.type t) = some (if a = "NoneType" then false else if a = "bool" then (t == "bool" || t == "int") else t == a) := fun a e => kit_ty e
  have hB : ∀ a ∈ ["NoneType", "int", "bool", "str", "tuple", "list", "dict"], ∀ t ∈ ["int", "bool", "str", "tuple", "list", "dict"], kitB a t = some (if a = "NoneType" then false else if a = "bool" then (t == "bool" || t == "int") else t == a) := by decide +kernel
  cases h with
  | non => exact B _ (hB "NoneType" (by decide) t ht)
  | bl b => exact B _ (hB "bool" (by decide) t ht)
  | int b => exact B _ (hB "int" (by decide) t ht)
  | str b => exact B _ (hB "str" (by decide) t ht)
  | lst _ _ => exact B _ (hB "list" (by decide) t ht)
  | tup _ _ => exact B _ (hB "tuple" (by decide) t ht)
  | dic _ _ _ => exact B _ (hB "dict" (by decide) t ht)
  | ins hc _ _ _ => exact hc.nt t ht
  | exc hc hn _ _ _ _ => exact hn t ht
  | fnv f => exact hb.elim
def xIsT (t : String) (F : DT) : DT := fun ρ n P XP => F ρ n (fun d n1 => bareD d ∧ P (.bl (isTy t d)) n1) XP
theorem is_end {cv : V} {cu : Value} {b : Bool} {v : V} {d : D} {Q : VK} (hc : ClsV cv cu) (hd : Dn K H v d) (hb : bareD d) (e : PySem.W.kitOne K (tyD d) cu = some b) (fin : Q (.bl b) H) : rIsD K [v, cv] H Q := by
  cases d with
  | exc C ns ds =>
    cases hd with
    | @exc a C od fs ns ds hC hT g1 g0 g2 g3 =>
      refine .inr ⟨a, C, od, cv, cu, b, rfl, hc, g1, fun dd ed => ?_, hC, e, fin⟩
      rcases g0 with g0 | ⟨d2, g0, hne, g4⟩
      · rw [g0.1] at ed
        cases ed
      · rw [g0] at ed
        cases ed
        exact ⟨_, g4⟩
  | fnv f => exact hb.elim
  | _ => exact .inl ⟨v, cv, _, cu, b, rfl, hc, TyX.of hd (fun _ _ _ z => by cases z) (fun _ z => by cases z), e, fin⟩
theorem rd_isT {t : String} (ht : t ∈ ["int", "bool", "str", "tuple", "list", "dict"]) (h1 : DL.Rd K T S E te FE) : DL.Rd K T S E (tCB (rIsD K) (tCons te (tCons (tC (.ty t)) tNil))) (xIsT t FE) := fun σ ρ Hb H n P XP Q w sl h q x =>
  h1 σ ρ Hb H n _ XP _ w sl h (fun d v n1 Hb1 H1 s hd p => is_end (.ty t) (s.wd.dn hd) p.1 (kit_isTy ht hd p.1) (q _ _ n1 Hb1 H1 s (.bl _) p.2)) x
/-! ### displays of dicts -/
def xPairs : List (DT × DT) → List SV → Nat → (List Key → List D → Nat → Prop) → DX → Prop
  | [], _, n, P, _ => P [] [] n
  | (F, G) :: r, ρ, n, P, XP => F ρ n (fun a n1 => ∃ k, keyD a = some k ∧ G ρ n1 (fun d n2 => xPairs r ρ n2 (fun ks ds n3 => P (k :: ks) (d :: ds) n3) XP) XP) XP
def xDisp (prs : List (DT × DT)) : DT := fun ρ n P XP => xPairs prs ρ n (fun ks ds n1 => ks.Nodup ∧ ks.length ≤ 15 ∧ P (.dic ks ds) n1) XP
inductive RdP (K : PySem.W.Frag) (T : Tb) (S : SA) (E : XK) : List (TE × TE) → List (DT × DT) → Prop
  | nil : RdP K T S E [] []
  | cons {tk tv : TE} {F G : DT} {trs : List (TE × TE)} {prs : List (DT × DT)} : DL.Rd K T S E tk F → DL.Rd K T S E tv G → RdP K T S E trs prs → RdP K T S E ((tk, tv) :: trs) ((F, G) :: prs)
theorem key_rel {v : V} {d : D} {k : Key} (h : Dn K H v d) (e : keyD d = some k) : v = kV k := by
  cases h with
  | int i => cases e; rfl
  | str i => cases e; rfl
  | _ => cases e
theorem rd_pairs {trs : List (TE × TE)} {prs : List (DT × DT)} (h : RdP K T S E trs prs) : ∀ {σ : L2.St} {ρ : List SV} {Hb H : Hp} {n : Nat} {P : List Key → List D → Nat → Prop} {XP : DX} {Q : List (V × V) → Hp → Prop}, World T S Hb H → Slots K S Hb H n ρ σ →
    xPairs prs ρ n P XP → (∀ (kvs : List (Key × V)) (ks : List Key) (ds : List D) (n' : Nat) (Hb' H' : Hp), Stp K T S Hb H n Hb' H' n' → kvs.map (·.1) = ks → DnA K Hb' (kvs.map (·.2)) ds → P ks ds n' → Q (kvs.map fun kv => (kV kv.1, kv.2)) H') → XOk K T S Hb H n XP E → tPairs trs σ H Q := by
  induction h with
  | nil => exact fun w sl p q x => q [] [] [] _ _ _ (.refl w) rfl .nil p
  | @cons tk tv F G trs prs h1 h2 _ ih =>
    intro σ ρ Hb H n P XP Q w sl p q x
    refine h1 σ ρ Hb H n _ XP _ w sl p (fun a v n1 Hb1 H1 s hv p1 => ?_) x
    obtain ⟨k, ek, p1⟩ := p1
    refine h2 σ ρ Hb1 H1 n1 _ XP _ s.wd (sl.step s) p1 (fun d u n2 Hb2 H2 s2 hu p2 => ?_) (x.step s)
    refine ih s2.wd ((sl.step s).step s2) p2 (fun kvs ks ds n3 Hb3 H3 s3 e3 h3 p3 => ?_) ((x.step s).step s2)
    have z := q ((k, u) :: kvs) (k :: ks) (d :: ds) n3 Hb3 H3 ((s.trans s2).trans s3) (by rw [List.map_cons, e3]) (.cons (hu.up s3.ex) h3) p3
    rw [key_rel hv ek]
    exact z
theorem merge_nodup : ∀ {kvs acc : List (Key × V)}, ((acc ++ kvs).map (·.1)).Nodup → mergeK acc kvs = acc ++ kvs
  | [], acc, _ => by simp [mergeK]
  | (k, v) :: kvs, acc, h => by
    have e : putK acc k v = acc ++ [(k, v)] := by
      refine putK_new v ?_
      cases q : valV acc k with
      | none => rfl
      | some u =>
        rw [List.map_append, List.nodup_append] at h
        have hm : k ∈ acc.map (·.1) := by
          unfold valV at q
          cases f : acc.find? fun kv => decide (kv.1 = k) with
          | none => rw [f] at q; cases q
          | some kv =>
            have h1 := List.mem_of_find?_eq_some f
            have h2 := List.find?_some f
            simp at h2
            exact List.mem_map.mpr ⟨kv, h1, h2⟩
        exact absurd rfl (h.2.2 k hm k (by simp))
    show mergeK (putK acc k v) kvs = _
    rw [e, merge_nodup (acc := acc ++ [(k, v)]) (by simpa using h)]
    simp
theorem rd_disp {trs : List (TE × TE)} {prs : List (DT × DT)} (h : RdP K T S E trs prs) : DL.Rd K T S E (tDisp trs) (xDisp prs) := fun σ ρ Hb H n P XP Q w sl hp q x p hn => by
  have s0 : Stp K T S Hb H n Hb (upd H p (.dK [])) n := .newO w hn
  obtain ⟨n1, n2, n3⟩ := w.nS (fresh_none hn)
  refine rd_pairs h s0.wd (sl.step s0) hp (fun kvs ks ds n' Hb' H' s ek hd p1 => ?_) (x.step s0)
  obtain ⟨hnd, hl, p1⟩ := p1
  obtain ⟨g1, g2⟩ := s.own p _ upd_same (free_of w.ex hn) n1 n2 (fun ps z => by cases z)
  have el : kvs.length = ks.length := by rw [← ek, List.length_map]
  refine ⟨g1, kvs, rfl, by omega, ?_⟩
  have em : mergeK [] kvs = kvs := by
    rw [merge_nodup (by rw [List.nil_append, ek]; exact hnd)]
    rfl
  rw [em]
  refine q _ _ n' _ _ ((s0.trans s).freeze (o := .dK kvs) (fresh_none hn) g2 (by rw [g1]; exact fun z => by cases z) (fun ps z => by rw [g1] at z; cases z) (fun c u z => by rw [g1] at z; exact codeO_no (o := .dK []) (fun _ z => by cases z) (Option.some.inj z)) n1 n2 n3) (.dic upd_same ek (hd.up (Ex.new g2))) p1
def xDNew : DT := fun _ n P _ => P (.dic [] []) n
theorem rd_dnew : DL.Rd K T S E tDNewK xDNew := fun σ ρ Hb H n P XP Q w sl h q x p hp => q.new w hp (.dic upd_same rfl .nil) h
end
end DL

/-! defs by their promise on data -/
namespace DL
open L2 PySem PySem.Spec PyProof.Rows
open Evl (Ex ex_l ex_t sz_of)
def startS (N : List Str) (ss : List SV) : List SV := ss ++ List.replicate (N.length - ss.length) .no
def noOl : List SV → Bool
  | [] => true
  | .ol _ :: _ => false
  | .me _ _ _ _ :: _ => false
  | .od _ _ :: _ => false
  | .ot _ _ :: _ => false
  | _ :: ss => noOl ss
def noL : List SV → Bool
  | [] => true
  | .ol _ :: _ => false
  | _ :: ss => noL ss
theorem noL_of : ∀ {ss : List SV}, noOl ss = true → noL ss = true
  | [], _ => rfl
  | .ol _ :: _, h => by exact (Bool.noConfusion h)
  | .me _ _ _ _ :: _, h => by exact (Bool.noConfusion h)
  | .od _ _ :: _, h => by exact (Bool.noConfusion h)
  | .ot _ _ :: _, h => by exact (Bool.noConfusion h)
  | .fv _ :: ss, h => noL_of (ss := ss) h
  | .no :: ss, h => noL_of (ss := ss) h
  | .st :: ss, h => noL_of (ss := ss) h
  | .d _ :: ss, h => noL_of (ss := ss) h
section
variable {K : PySem.W.Frag} {T : Tb} {S : SA} {E : XK} {Hb H Hb1 H1 : Hp} {n n1 : Nat} {X : Cx}
theorem Args.get : ∀ {ss : List SV} {vs : List V} {i : Nat} {s : SV}, Args K S Hb H n ss vs → ss[i]? = some s → ∃ v, vs[i]? = some v ∧ SlotOk K S Hb H n s (some v)
  | [], _, i, s, _, e => by simp at e
  | s :: ss, _, 0, s', h, e => by
    cases h with
    | cons h1 h2 =>
      simp at e
      subst e
      exact ⟨_, rfl, h1⟩
  | s :: ss, _, i + 1, s', h, e => by
    cases h with
    | cons h1 h2 => exact Args.get (i := i) h2 (by simpa using e)
theorem noOl_get : ∀ {ss : List SV} {i : Nat} {s : SV}, noOl ss = true → ss[i]? = some s → isOwn s = false
  | [], i, s, _, e => by simp at e
  | .no :: _, 0, s, h, e => by simp at e; subst e; rfl
  | .st :: _, 0, s, h, e => by simp at e; subst e; rfl
  | .d _ :: _, 0, s, h, e => by simp at e; subst e; rfl
  | .ol _ :: _, _, s, h, e => by exact Bool.noConfusion h
  | .me _ _ _ _ :: _, _, s, h, e => by exact Bool.noConfusion h
  | .od _ _ :: _, _, s, h, e => by exact Bool.noConfusion h
  | .ot _ _ :: _, _, s, h, e => by exact Bool.noConfusion h
  | .fv _ :: _, 0, s, h, e => by simp at e; subst e; rfl
  | .fv _ :: ss, i + 1, s, h, e => noOl_get (ss := ss) (i := i) h (by simpa using e)
  | .no :: ss, i + 1, s, h, e => noOl_get (ss := ss) (i := i) h (by simpa using e)
  | .st :: ss, i + 1, s, h, e => noOl_get (ss := ss) (i := i) h (by simpa using e)
  | .d _ :: ss, i + 1, s, h, e => noOl_get (ss := ss) (i := i) h (by simpa using e)
theorem noL_get : ∀ {ss : List SV} {i : Nat} {xs : List D}, noL ss = true → ss[i]? ≠ some (.ol xs)
  | [], i, xs, _ => by simp
  | s :: ss, 0, xs, h => by
    intro e
    simp at e
    subst e
    exact absurd h (by simp [noL])
  | s :: ss, i + 1, xs, h => by
    have h' : noL ss = true := by cases s <;> first | exact h | (exact absurd h (by simp [noL]))
    simpa using noL_get (i := i) h'
theorem start_cases {N : List Str} {ss : List SV} {i : Nat} {s : SV} (ei : (startS N ss)[i]? = some s) : ss[i]? = some s ∨ s = .no := by
  unfold startS at ei
  by_cases hi : i < ss.length
  · rw [List.getElem?_append_left hi] at ei
    exact .inl ei
  · rw [List.getElem?_append_right (by omega), List.getElem?_replicate] at ei
    split at ei
    · exact .inr (Option.some.inj ei).symm
    · cases ei
theorem start_no {N : List Str} {ss : List SV} {i : Nat} {xs : List D} (ho : noL ss = true) (ei : (startS N ss)[i]? = some (.ol xs)) : False := by
  rcases start_cases ei with h | h
  · exact absurd h (noL_get ho)
  · cases h
theorem start_fr {N : List Str} {ss : List SV} {σ : L2.St} {H0 : Hp} (ho : noOl ss = true) : OwF H0 (startS N ss) σ := fun _ _ _ ei eo _ => by
  rcases start_cases ei with h | h
  · rw [noOl_get ho h] at eo
    cases eo
  · subst h
    cases eo
theorem Slots.start {N : List Str} {ss : List SV} {vs : List V} (h : Args K S Hb H n ss vs) (ho : noL ss = true) : Slots K S Hb H n (startS N ss) (L2.start N vs) where
  len := by
    unfold startS L2.start
    rw [List.length_append, List.length_append, List.length_map, List.length_replicate, List.length_replicate, h.len]
  ok := fun i s e => by
    unfold startS at e
    unfold L2.start
    have hl := h.len
    by_cases hi : i < ss.length
    · rw [List.getElem?_append_left hi] at e
      obtain ⟨v, ev, hv⟩ := h.get e
      refine ⟨some v, ?_, hv⟩
      rw [List.getElem?_append_left (by rw [List.length_map, ← hl]; exact hi), List.getElem?_map, ev]
      rfl
    · rw [List.getElem?_append_right (by omega)] at e
      have es : s = .no := by
        rw [List.getElem?_replicate] at e
        split at e
        · exact (Option.some.inj e).symm
        · cases e
      subst es
      have hlt : i - ss.length < N.length - ss.length := by
        have := (List.getElem?_eq_some_iff.mp e).1
        simpa using this
      refine ⟨none, ?_, trivial⟩
      rw [List.getElem?_append_right (by rw [List.length_map]; omega), List.length_map, List.getElem?_replicate, if_pos (by omega)]
  ap := fun i j p xs ys _ ei _ _ _ => (start_no ho ei).elim

/-- a promise on data, no error -/
abbrev DSp0 := List SV → Nat → DQ → Prop
def sp0 (K : PySem.W.Frag) (T : Tb) (DS : DSp0) : Sp := spOf K T (fun ss n P _ => noOl ss = true ∧ DS ss n P)
def spX (K : PySem.W.Frag) (T : Tb) (DS : DSp) : Sp := spOf K T (fun ss n P XP => noOl ss = true ∧ DS ss n P XP)
variable {P : Program} {w : PySem.World} {mg : Str → Option Value} {base : Heap}
theorem _root_.L2.Fun.okD {x qual : Str} {st : Stmt} {f : Addr} {fd : FuncData} {N ps : List Str} {k : Nat} {DS : DSp0} (F : Fun K x qual st f fd) (Sc : FnScope N ps (defScope st)) (len : ∀ ss n P, DS ss n P → ss.length = ps.length)
    (hb : ∀ (S : SA) (cdv : Value) (A : Around) (outer : List Env) (s : Shared) (H : Hp) (E : XK), Room k (A.deeper (envOfC qual (defScope st) s.heap.objs.size f cdv)) →
      ∃ ts G, PSs (cxOf CX0 P w K mg base N qual (defScope st) f cdv A outer s H E).nox (defBody st) ts ∧ RdS K T S E0 ts G ∧ ∀ ss n P, DS ss n P → G { nx := fun _ n => P .non n, rt := P } (startS N ss) n xF) :
    FnOk P w K mg base CX0 (k + 1) f fd ps (sp0 K T DS) := by
  refine F.ok Sc (fun vs H Q E h => ?_) (fun cdv A outer s H vs Q E hr h => ?_)
  · obtain ⟨S, Hb, n, ss, P, XP, _, ha, ⟨_, hd⟩, _⟩ := h
    rw [← ha.len]
    exact len ss n P hd
  · obtain ⟨S, Hb, n, ss, P, XP, wd, ha, ⟨ho, hd⟩, q, _⟩ := h
    obtain ⟨ts, G, h1, h2, h3⟩ := hb S cdv A outer s H E hr
    refine ⟨ts, h1, h2 _ _ Hb H n Hb H n _ xF _ (.refl wd) ⟨.start ha (noL_of ho), start_fr ho⟩ (h3 ss n P hd) ⟨fun ρ σ n' Hb' H' _ st _ p => q _ _ _ _ _ st .non p, q, fun _ _ _ _ _ _ _ _ p => p.elim, fun _ _ _ _ _ _ _ _ p => p.elim⟩ .none⟩
theorem _root_.L2.Fun.okXD {x qual : Str} {st : Stmt} {f : Addr} {fd : FuncData} {N ps : List Str} {k : Nat} {DS : DSp} (F : Fun K x qual st f fd) (Sc : FnScope N ps (defScope st)) (len : ∀ ss n P XP, DS ss n P XP → ss.length = ps.length)
    (hb : ∀ (S : SA) (cdv : Value) (A : Around) (outer : List Env) (s : Shared) (H : Hp) (E : XK), Room k (A.deeper (envOfC qual (defScope st) s.heap.objs.size f cdv)) →
      ∃ ts G, PSs (cxOf (L2.CX P w) P w K mg base N qual (defScope st) f cdv A outer s H E) (defBody st) ts ∧ RdS K T S E ts G ∧ ∀ ss n P XP, DS ss n P XP → G { nx := fun _ n => P .non n, rt := P } (startS N ss) n XP) :
    FnOk P w K mg base (L2.CX P w) (k + 1) f fd ps (spX K T DS) := by
  refine F.okX Sc (fun vs H Q E h => ?_) (fun cdv A outer s H vs Q E hr h => ?_)
  · obtain ⟨S, Hb, n, ss, P, XP, _, ha, ⟨_, hd⟩, _⟩ := h
    rw [← ha.len]
    exact len ss n P XP hd
  · obtain ⟨S, Hb, n, ss, P, XP, wd, ha, ⟨ho, hd⟩, q, x⟩ := h
    obtain ⟨ts, G, h1, h2, h3⟩ := hb S cdv A outer s H E hr
    refine ⟨ts, h1, h2 _ _ Hb H n Hb H n _ XP _ (.refl wd) ⟨.start ha (noL_of ho), start_fr ho⟩ (h3 ss n P XP hd) ⟨fun ρ σ n' Hb' H' _ st _ p => q _ _ _ _ _ st .non p, q, fun _ _ _ _ _ _ _ _ p => p.elim, fun _ _ _ _ _ _ _ _ p => p.elim⟩ x⟩

/-! ### calls -/
def xCall0 (DS : DSp0) (G : DTA) : DT := fun ρ n P XP => G ρ n (fun ss n1 => noOl ss = true ∧ DS ss n1 P) XP
def xCallX (DS : DSp) (G : DTA) : DT := fun ρ n P XP => G ρ n (fun ss n1 => noOl ss = true ∧ DS ss n1 P XP) XP
theorem rd_call0 {DS : DSp0} {ta : TA} {G : DTA} {E : XK} {E' : XK} (h : RdA K T S E' ta G) : DL.Rd K T S E' (tCall (sp0 K T DS) [] E ta) (xCall0 DS G) := fun σ ρ Hb H n P XP Q w sl hf q x =>
  h σ ρ Hb H n _ XP _ w sl hf (fun ss vs n1 Hb1 H1 s ha p => by
    show sp0 K T DS (vs ++ []) H1 Q E
    rw [List.append_nil]
    exact ⟨S, Hb1, n1, ss, P, xF, s.wd, ha, p, q.step s, .none⟩) x
theorem rd_callX {DS : DSp} {ta : TA} {G : DTA} (h : RdA K T S E ta G) : DL.Rd K T S E (tCall (spX K T DS) [] E ta) (xCallX DS G) := fun σ ρ Hb H n P XP Q w sl hf q x =>
  h σ ρ Hb H n _ XP _ w sl hf (fun ss vs n1 Hb1 H1 s ha p => by
    show spX K T DS (vs ++ []) H1 Q E
    rw [List.append_nil]
    exact ⟨S, Hb1, n1, ss, P, XP, s.wd, ha, p, q.step s, x.step s⟩) x
/-- a def that may raise, called where it does not -/
theorem rd_callN {DS : DSp} {ta : TA} {G : DTA} {E' : XK} (h : RdA K T S E' ta G) : DL.Rd K T S E' (tCall (spX K T DS) [] E0 ta) (fun ρ n P XP => G ρ n (fun ss n1 => noOl ss = true ∧ DS ss n1 P xF) XP) := fun σ ρ Hb H n P XP Q w sl hf q x =>
  h σ ρ Hb H n _ XP _ w sl hf (fun ss vs n1 Hb1 H1 s ha p => by
    show spX K T DS (vs ++ []) H1 Q E0
    rw [List.append_nil]
    exact ⟨S, Hb1, n1, ss, P, xF, s.wd, ha, p, q.step s, .none⟩) x
end
end DL

/-! how a def stands behind the top; the first words for goals on data -/
namespace DL
open L2 PySem PySem.Spec PyProof.Rows
/-- a def of the text as the top leaves it -/
def DefAt (K : PySem.W.Frag) (mg : Str → Option Value) (name : Str) (st : Stmt) (ps : List Str) : Prop :=
  ∃ f fd, Fun K name name st f fd ∧ mg name = some (.ref f) ∧ PySem.W.keepIn K (.ref f) = true ∧ Binds K fd ps []
/-- a def with its promise -/
def Has (P : Program) (w : PySem.World) (K : PySem.W.Frag) (mg : Str → Option Value) (base : Heap) (CX : CXT) (k : Nat) (name : Str) (ps : List Str) (sp : Sp) : Prop :=
  ∃ f fd, FnOk P w K mg base CX k f fd ps sp ∧ mg name = some (.ref f) ∧ PySem.W.keepIn K (.ref f) = true ∧ Binds K fd ps []
theorem slotD_zero {x : D} {ρ : List SV} {k : D → Prop} : slotD (.d x :: ρ) 0 k = k x := rfl
theorem slotD_succ {s : SV} {ρ : List SV} {i : Nat} {k : D → Prop} : slotD (s :: ρ) (i + 1) k = slotD ρ i k := rfl
theorem startS_eq {N : List Str} {ss : List SV} : startS N ss = ss ++ List.replicate (N.length - ss.length) .no := rfl
def isInt : D → Bool
  | .int _ => true
  | _ => false
def isTup : D → Bool
  | .tup _ => true
  | _ => false
end DL

/-! lists of one's own -/
namespace DL
open L2 PySem PySem.Spec PyProof.Rows
open Evl (Ex ex_l ex_t sz_of)
section
variable {K : PySem.W.Frag} {T : Tb} {S : SA} {E : XK} {Hb H Hb1 H1 : Hp} {n n1 : Nat} {te : TE} {FE : DT}
def slotO (ρ : List SV) (i : Nat) (k : List D → Prop) : Prop := match ρ[i]? with
  | some (.ol x) => k x
  | _ => False
theorem slotO_zero {x : List D} {ρ : List SV} {k : List D → Prop} : slotO (.ol x :: ρ) 0 k = k x := rfl
theorem slotO_succ {s : SV} {ρ : List SV} {i : Nat} {k : List D → Prop} : slotO (s :: ρ) (i + 1) k = slotO ρ i k := rfl
theorem Slots.own {ρ : List SV} {σ : L2.St} {i : Nat} {k : List D → Prop} (sl : Slots K S Hb H n ρ σ) (h : slotO ρ i k) : ∃ xs p vs, ρ[i]? = some (.ol xs) ∧ σ[i]? = some (some (.ref p)) ∧ H p = some (.lst vs) ∧ Hb p = none ∧ p ≠ S.a ∧ p ≠ S.l ∧ p ≠ S.c ∧ DnA K Hb vs xs ∧ k xs := by
  unfold slotO at h
  cases e : ρ[i]? with
  | none => rw [e] at h; exact h.elim
  | some s =>
    rw [e] at h
    cases s with
    | ol xs =>
      obtain ⟨o, e1, p, vs, e2, e3, e4, e5, e6, e8, e7⟩ := sl.ok i _ e
      exact ⟨xs, p, vs, rfl, by rw [e1, e2], e3, e4, e5, e6, e8, e7, h⟩
    | no => exact h.elim
    | st => exact h.elim
    | d x => exact h.elim
    | me _ _ _ _ => exact h.elim
    | od _ _ => exact h.elim
    | ot _ _ => exact h.elim
    | fv _ => exact h.elim
/-- a slot gets a list of one's own -/
theorem Slots.setO {ρ : List SV} {σ : L2.St} {i : Nat} {p : Addr} {vs : List V} {xs : List D} (sl : Slots K S Hb H n ρ σ) (h1 : H p = some (.lst vs)) (h2 : Hb p = none) (h3 : p ≠ S.a) (h4 : p ≠ S.l) (h4c : p ≠ S.c) (h5 : DnA K Hb vs xs)
    (fr : ∀ (j : Nat) (ys : List D), ρ[j]? = some (.ol ys) → σ[j]? ≠ some (some (.ref p))) : Slots K S Hb H n (ρ.set i (.ol xs)) (σ.set i (some (.ref p))) where
  len := by rw [List.length_set, List.length_set]; exact sl.len
  ok := fun j s e => by
    by_cases hj : i = j
    · subst hj
      have hl : i < ρ.length := by
        have := (List.getElem?_eq_some_iff.mp e).1
        rwa [List.length_set] at this
      rw [List.getElem?_set_self hl] at e
      cases e
      exact ⟨_, List.getElem?_set_self (by rw [← sl.len]; exact hl), p, vs, rfl, h1, h2, h3, h4, h4c, h5⟩
    · rw [List.getElem?_set_ne hj] at e
      obtain ⟨o, e1, e2⟩ := sl.ok j s e
      exact ⟨o, by rw [List.getElem?_set_ne hj]; exact e1, e2⟩
  ap := fun j k q ys zs hjk ej ek sj sk => by
    by_cases hj : i = j
    · subst hj
      have hk : i ≠ k := hjk
      rw [List.getElem?_set_ne hk] at ek sk
      have hl : i < ρ.length := by
        have := (List.getElem?_eq_some_iff.mp ej).1
        rwa [List.length_set] at this
      rw [List.getElem?_set_self (by rw [← sl.len]; exact hl)] at sj
      have eq : p = q := V.ref.inj (Option.some.inj (Option.some.inj sj))
      subst eq
      exact fr k zs ek sk
    · by_cases hk : i = k
      · subst hk
        rw [List.getElem?_set_ne hj] at ej sj
        have hl : i < ρ.length := by
          have := (List.getElem?_eq_some_iff.mp ek).1
          rwa [List.length_set] at this
        rw [List.getElem?_set_self (by rw [← sl.len]; exact hl)] at sk
        have eq : p = q := V.ref.inj (Option.some.inj (Option.some.inj sk))
        subst eq
        exact fr j ys ej sj
      · rw [List.getElem?_set_ne hj] at ej sj
        rw [List.getElem?_set_ne hk] at ek sk
        exact sl.ap j k q ys zs hjk ej ek sj sk
/-- the step that rewrites a list of one's own; what others hold stays -/
theorem own_write {ρ : List SV} {σ : L2.St} {i : Nat} {p : Addr} {vs us : List V} {xs ys : List D} (w : World T S Hb H) (sl : Slots K S Hb H n ρ σ) (ei : ρ[i]? = some (.ol xs)) (es : σ[i]? = some (some (.ref p))) (h1 : H p = some (.lst vs)) (h2 : Hb p = none) (h3 : p ≠ S.a) (h4 : p ≠ S.l)
    (h6 : DnA K Hb us ys) (hpc : p ≠ S.c) : World T S Hb (upd H p (.lst us)) ∧ Slots K S Hb (upd H p (.lst us)) n (ρ.set i (.ol ys)) σ := by
  have hnt : ∀ q ∈ T, q.1 ≠ p := fun q hq z => by
    obtain ⟨ps, e, _⟩ := w.tabs q hq
    rw [z, h1] at e
    cases e
  have keep : ∀ {b : Addr} {o : HO}, H b = some o → b ≠ p → upd H p (.lst us) b = some o := fun e hb => by rw [upd_ne hb]; exact e
  refine ⟨⟨fun b o e => keep (w.ex b o e) (fun z => by rw [z, h2] at e; cases e), fun q hq => ?_, w.tb, ?_, ?_, ?_, w.nt⟩, ?_⟩
  · obtain ⟨ps, e, t1, t2⟩ := w.tabs q hq
    refine ⟨ps, keep e (hnt q hq), t1, fun pos cv hcv => ?_⟩
    obtain ⟨c, e1, e2⟩ := t2 pos cv hcv
    exact ⟨c, e1, keep e2 (fun z => by rw [z, h1] at e2; exact codeO_no (o := .lst vs) (fun _ z => by cases z) (Option.some.inj e2))⟩
  · exact w.sa.upd fun _ z => by cases z
  · exact w.sl.upd fun _ z => by cases z
  · exact w.sc.upd fun _ z => by cases z
  · refine ⟨by rw [List.length_set]; exact sl.len, fun j s e => ?_, fun j k q y z hjk ej ek sj sk => ?_⟩
    · by_cases hj : i = j
      · subst hj
        have hl : i < ρ.length := (List.getElem?_eq_some_iff.mp ei).1
        rw [List.getElem?_set_self hl] at e
        cases e
        exact ⟨_, es, p, us, rfl, upd_same, h2, h3, h4, hpc, h6⟩
      · rw [List.getElem?_set_ne hj] at e
        obtain ⟨o, e1, e2⟩ := sl.ok j s e
        refine ⟨o, e1, ?_⟩
        cases s with
        | no => trivial
        | d x => exact e2
        | st =>
          obtain ⟨e3, st⟩ := e2
          obtain ⟨g1, g2, ls, cs, m, t, g3, g4, g5, g6, g7, g8, rest⟩ := st
          exact ⟨e3, g1, g2, ls, cs, m, t, g3, g4, g5, keep g6 h3.symm, keep g7 h4.symm, g8, rest⟩
        | ol zs =>
          obtain ⟨q, ws, e3, e4, e5, e6, e7, e9, e8⟩ := e2
          have hqp : q ≠ p := fun z => by
            subst z
            exact sl.ap i j q xs zs hj ei e es (by rw [e1, e3])
          exact ⟨q, ws, e3, keep e4 hqp, e5, e6, e7, e9, e8⟩
        | me y C ms es2 =>
          obtain ⟨e3, dx, fs, e4, rest⟩ := e2
          exact ⟨e3, dx, fs, keep e4 (fun z => by rw [z, h1] at e4; cases e4), rest⟩
        | od ks es2 =>
          obtain ⟨q, kvs, e3, e4, rest⟩ := e2
          exact ⟨q, kvs, e3, keep e4 (fun z => by rw [z, h1] at e4; cases e4), rest⟩
        | ot ks es2 =>
          obtain ⟨q, kvs, e3, e4, rest⟩ := e2
          exact ⟨q, kvs, e3, keep e4 (fun z => by rw [z, h1] at e4; cases e4), rest⟩
        | fv F =>
          obtain ⟨f, c, e3, e4, e5, rest⟩ := e2
          exact ⟨f, c, e3, e4, keep e5 (fun z => by rw [z, h1] at e5; exact codeO_no (o := .lst vs) (fun _ z => by cases z) (Option.some.inj e5)), rest⟩
    · have f : ∀ {m : Nat} {u : List D}, (ρ.set i (.ol ys))[m]? = some (.ol u) → ∃ u', ρ[m]? = some (.ol u') := fun {m u} e => by
        by_cases hm : i = m
        · subst hm
          exact ⟨xs, ei⟩
        · rw [List.getElem?_set_ne hm] at e
          exact ⟨u, e⟩
      obtain ⟨y', ey⟩ := f ej
      obtain ⟨z', ez⟩ := f ek
      exact sl.ap j k q y' z' hjk ey ez sj sk
/-- y = [..], a list of one's own -/
theorem rds_setO {i : Nat} {F : DTL} (h1 : RdN K T S E te F) : RdS K T S E (tAsg te (gName i)) (xsSetO i F) := fun σ ρ Hb0 H0 n0 Hb H n DD XP D a sl h q x =>
  h1 σ ρ Hb H n _ XP _ a.wd sl.sl h (fun ds p vs n1 Hb1 H1 s hp e1 e2 hd pp => by
    obtain ⟨m1, m2, m3⟩ := a.wd.nS hp
    refine q.nx _ _ n1 Hb1 H1 s.ex (a.trans s) ⟨(sl.sl.step s).setO e1 e2 m1 m2 m3 hd (fun j ys ej sj => ?_), fun j xs r ej eo sj => ?_⟩ pp
    · obtain ⟨o, g1, r, ws, g2, g3, _⟩ := sl.sl.ok j _ ej
      rw [g1, g2] at sj
      have er : r = p := V.ref.inj (Option.some.inj (Option.some.inj sj))
      rw [er] at g3
      exact absurd rfl (hp.ne g3 fun _ z => by cases z)
    · by_cases hj : i = j
      · subst hj
        have hl : i < ρ.length := by
          have := (List.getElem?_eq_some_iff.mp ej).1
          rwa [List.length_set] at this
        rw [List.getElem?_set_self (by rw [← sl.sl.len]; exact hl)] at sj
        have er : p = r := V.ref.inj (Option.some.inj (Option.some.inj sj))
        rw [← er]
        exact a.dm p hp
      · rw [List.getElem?_set_ne hj] at ej sj
        exact sl.fr j xs r ej eo sj) (x.step a)
/-- xs[e], xs of one's own -/
def xIxO (i : Nat) (G : DT) : DT := fun ρ n P XP => slotO ρ i fun xs => G ρ n (fun d n1 => match d with | .int j => ∃ y, atD xs j = some y ∧ P y n1 | _ => False) XP
theorem rd_ixO {i : Nat} (h1 : DL.Rd K T S E te FE) : DL.Rd K T S E (tOp (rIx K) (tVar i) te) (xIxO i FE) := fun σ ρ Hb H n P XP Q w sl h q x => by
  obtain ⟨xs, p, vs, e, es, e3, e4, e5, e6, e8, e7, h⟩ := sl.own h
  refine ⟨.ref p, es, ?_⟩
  refine h1 σ ρ Hb H n _ XP _ w sl h (fun d v n1 Hb1 H1 s hd pp => ?_) x
  cases hd with
  | int j =>
    obtain ⟨y, ey, pp⟩ := pp
    obtain ⟨g1, g2⟩ := s.own p _ e3 e4 e5 e6 (fun ps z => by cases z)
    obtain ⟨u, eu, hu⟩ := (e7.up s.ex).at ey
    exact .inl ⟨p, vs, j, u, rfl, rfl, SqL.of g1, eu, q _ _ n1 Hb1 H1 s hu pp⟩
  | _ => exact pp.elim
/-- len(xs), tuple(xs), list(xs) -/
def xLenO (i : Nat) : DT := fun ρ n P _ => slotO ρ i fun xs => P (.int xs.length) n
theorem rd_lenO {i : Nat} : DL.Rd K T S E (tCB (rLenU K) (tCons (tVar i) tNil)) (xLenO i) := fun σ ρ Hb H n P XP Q w sl h q x => by
  obtain ⟨xs, p, vs, e, es, e3, e4, e5, e6, e8, e7, h⟩ := sl.own h
  exact ⟨.ref p, es, .inl ⟨p, vs, rfl, .inl (SqL.of e3), q.now w (.int _) (by rw [e7.len]; exact h)⟩⟩
def xTupO (i : Nat) : DT := fun ρ n P _ => slotO ρ i fun xs => P (.tup xs) n
theorem rd_tupO {i : Nat} : DL.Rd K T S E (tCB (rTupOf K) (tCons (tVar i) tNil)) (xTupO i) := fun σ ρ Hb H n P XP Q w sl h q x => by
  obtain ⟨xs, p, vs, e, es, e3, e4, e5, e6, e8, e7, h⟩ := sl.own h
  exact ⟨.ref p, es, p, vs, rfl, .inl ⟨SqL.of e3, fun l hl => q.new w hl (.tup (SqT.of upd_same) (e7.up (Ex.new (free_of w.ex hl)))) h⟩⟩
/-- a statement that rewrites a list of one's own -/
theorem own_stmt {i : Nat} {ρ : List SV} {σ : L2.St} {p : Addr} {vs us : List V} {xs ys : List D} {Hb0 H0 : Hp} {n0 : Nat} {DD : DEn} {D : Ends} (a : Stp K T S Hb0 H0 n0 Hb H n) (sl : Sl0 K S H0 Hb H n ρ σ) (q : EOk K T S Hb0 H0 n0 Hb DD D)
    (ei : ρ[i]? = some (.ol xs)) (es : σ[i]? = some (some (.ref p))) (h1 : H p = some (.lst vs)) (h2 : Hb p = none) (h3 : p ≠ S.a) (h4 : p ≠ S.l) (hc : p ≠ S.c) (h6 : DnA K Hb us ys) (pp : DD.nx (ρ.set i (.ol ys)) n) : D.nx σ (upd H p (.lst us)) := by
  have f0 : Fresh H0 p := sl.fr i _ p ei rfl es
  obtain ⟨w', sl'⟩ := own_write (us := us) (ys := ys) a.wd sl.sl ei es h1 h2 h3 h4 h6 hc
  refine q.nx _ _ n Hb _ (Ex.refl _) ⟨a.ex, w', fun h0 => ?_, fun b o e1 e2 e3 e4 e5 => ?_, fun b e => a.dm b (dm_upd (fun _ z => by cases z) b e)⟩ ⟨sl', fun j zs r ej eo sj => ?_⟩ pp
  · obtain ⟨g1, g2, ls, cs, m, t, g3, g4, g5, g6, g7, g8, rest⟩ := a.st h0
    exact ⟨g1, g2, ls, cs, m, t, g3, g4, g5, by rw [upd_ne h3.symm]; exact g6, by rw [upd_ne h4.symm]; exact g7, g8, rest⟩
  · have hb : b ≠ p := f0.ne e1 e5
    rw [upd_ne hb]
    exact a.own b o e1 e2 e3 e4 e5
  · by_cases hj : i = j
    · subst hj
      rw [es] at sj
      cases sj
      exact f0
    · rw [List.getElem?_set_ne hj] at ej
      exact sl.fr j zs r ej eo sj
/-- xs[e] = e2 -/
def xsPutO (i : Nat) (F G : DT) : DTS := fun DD ρ n XP => slotO ρ i fun xs => F ρ n (fun d n1 => G ρ n1 (fun k n2 => match k with
  | .int j => ∃ m, ixN xs.length j = some m ∧ DD.nx (ρ.set i (.ol (xs.set m d))) n2
  | _ => False) XP) XP
theorem DnA.set {vs : List V} {ds : List D} {v : V} {d : D} (hv : Dn K H v d) : ∀ (m : Nat) {vs : List V} {ds : List D}, DnA K H vs ds → DnA K H (vs.set m v) (ds.set m d)
  | _, _, _, .nil => by simp; exact .nil
  | 0, _, _, .cons h1 h2 => .cons hv h2
  | m + 1, _, _, .cons h1 h2 => .cons h1 (DnA.set (vs := []) (ds := []) hv m h2)
theorem rds_putO {i : Nat} {ti : TE} {GE : DT} (h1 : DL.Rd K T S E te FE) (h2 : DL.Rd K T S E ti GE) : RdS K T S E (tAsg te (gSub (tVar i) ti rSetL)) (xsPutO i FE GE) := fun σ ρ Hb0 H0 n0 Hb H n DD XP D a sl h q x => by
  obtain ⟨xs, p, vs, e, es, e3, e4, e5, e6, e8, e7, h⟩ := sl.sl.own h
  refine h1 σ ρ Hb H n _ XP _ a.wd sl.sl h (fun d v n1 Hb1 H1 s hd pp => ?_) (x.step a)
  refine ⟨.ref p, es, ?_⟩
  refine h2 σ ρ Hb1 H1 n1 _ XP _ s.wd (sl.step s).sl pp (fun k u n2 Hb2 H2 s2 hk p2 => ?_) ((x.step a).step s)
  obtain ⟨g1, g2⟩ := (s.trans s2).own p _ e3 e4 e5 e6 (fun ps z => by cases z)
  have h7 := (e7.up s.ex).up s2.ex
  cases hk with
  | int j =>
    obtain ⟨m, em, p2⟩ := p2
    refine ⟨p, vs, j, m, rfl, rfl, g1, by rw [e7.len]; exact em, ?_⟩
    exact own_stmt ((a.trans s).trans s2) ((sl.step s).step s2) (q.up (s.ex.trans s2.ex)) e es g1 g2 e5 e6 e8 (DnA.set (vs := []) (ds := []) (hd.up s2.ex) m h7) p2
  | _ => exact p2.elim
/-- xs.append(e) -/
def xsAppO (i : Nat) (F : DT) : DTS := fun DD ρ n XP => slotO ρ i fun xs => F ρ n (fun d n1 => xs.length < 100000 ∧ DD.nx (ρ.set i (.ol (xs ++ [d]))) n1) XP
theorem rds_appO {i : Nat} (h1 : DL.Rd K T S E te FE) : RdS K T S E (tDrop (tBM K "list" rAppend (tVar i) (tCons te tNil))) (xsAppO i FE) := fun σ ρ Hb0 H0 n0 Hb H n DD XP D a sl h q x => by
  obtain ⟨xs, p, vs, e, es, e3, e4, e5, e6, e8, e7, h⟩ := sl.sl.own h
  refine ⟨.ref p, es, .inl ⟨rfl, vs, SqL.of e3⟩, ?_⟩
  refine h1 σ ρ Hb H n _ XP _ a.wd sl.sl h (fun d v n1 Hb1 H1 s hd pp => ?_) (x.step a)
  obtain ⟨g1, g2⟩ := s.own p _ e3 e4 e5 e6 (fun ps z => by cases z)
  have h7 := e7.up s.ex
  exact ⟨p, vs, v, rfl, rfl, g1, Evl.sz_lt (by rw [e7.len]; exact pp.1), own_stmt (a.trans s) (sl.step s) (q.up s.ex) e es g1 g2 e5 e6 e8 (h7.app (.one hd)) pp.2⟩
/-- return xs -/
def xsRetO (i : Nat) : DTS := fun DD ρ n _ => slotO ρ i fun xs => DD.rt (.lst xs) n
end
end DL

/-! the source of draws, as its two objects stand -/
namespace DL
open L2 PySem PySem.Spec PyProof.Rows
open Evl (Ex ex_l ex_t sz_of)
def stDict (S : SA) (m : Int) (t : Int) : List (Key × V) := [(kLarge, .ref S.l), (kCells, .ref S.c), (kLeft, .int m), (kTurn, .int t)]
theorem kne1 : ¬ kLarge = kCells := by decide +kernel
theorem kne2 : ¬ kLarge = kLeft := by decide +kernel
theorem kne3 : ¬ kLarge = kTurn := by decide +kernel
theorem kne4 : ¬ kCells = kLeft := by decide +kernel
theorem kne5 : ¬ kCells = kTurn := by decide +kernel
theorem kne6 : ¬ kLeft = kTurn := by decide +kernel
theorem st_large {S : SA} {m t : Int} : valV (stDict S m t) kLarge = some (.ref S.l) := by simp [valV, stDict]
theorem st_cells {S : SA} {m t : Int} : valV (stDict S m t) kCells = some (.ref S.c) := by simp [valV, stDict, kne1]
theorem st_left {S : SA} {m t : Int} : valV (stDict S m t) kLeft = some (.int m) := by simp [valV, stDict, kne2, kne4]
theorem st_turn {S : SA} {m t : Int} : valV (stDict S m t) kTurn = some (.int t) := by simp [valV, stDict, kne3, kne5, kne6]
theorem st_putL {S : SA} {m t k : Int} : putK (stDict S m t) kLeft (.int k) = stDict S k t := by
  simp [putK, stDict, kne2, kne4, Ne.symm (a := kLeft) (b := kTurn) kne6]
theorem st_putT {S : SA} {m t k : Int} : putK (stDict S m t) kTurn (.int k) = stDict S m k := by
  simp [putK, stDict, kne3, kne5, kne6]
/-- what a draw leaves as it was -/
structure Drw (S : SA) (H H' : Hp) : Prop where
  fr : ∀ b o, H b = some o → b ≠ S.a → b ≠ S.l → H' b = some o
  dm : ∀ b, Fresh H' b → Fresh H b
theorem Drw.refl {S : SA} (H : Hp) : Drw S H H := ⟨fun _ _ h _ _ => h, fun _ h => h⟩
theorem Drw.new {S : SA} {H H' : Hp} {p : Addr} {o : HO} (d : Drw S H H') (hp : H' p = none) (ho : ∀ ps, o ≠ .tbl ps := by intro _ z; cases z) : Drw S H (upd H' p o) := ⟨fun b u h h1 h2 => by
  have e := d.fr b u h h1 h2
  rw [upd_ne (ne_of_none e hp)]
  exact e, fun b h => d.dm b (dm_upd ho b h)⟩
theorem Drw.setA {S : SA} {H H' : Hp} {o : HO} (d : Drw S H H') (ho : ∀ ps, o ≠ .tbl ps := by intro _ z; cases z) : Drw S H (upd H' S.a o) := ⟨fun b u h h1 h2 => by
  rw [upd_ne h1]
  exact d.fr b u h h1 h2, fun b h => d.dm b (dm_upd ho b h)⟩
theorem Drw.setL {S : SA} {H H' : Hp} {o : HO} (d : Drw S H H') (ho : ∀ ps, o ≠ .tbl ps := by intro _ z; cases z) : Drw S H (upd H' S.l o) := ⟨fun b u h h1 h2 => by
  rw [upd_ne h2]
  exact d.fr b u h h1 h2, fun b h => d.dm b (dm_upd ho b h)⟩
/-- the source's two objects -/
structure StA (S : SA) (H : Hp) (ls : List Int) (m t : Int) : Prop where
  ea : H S.a = some (.dK (stDict S m t))
  el : H S.l = some (.lst (ls.map V.int))
theorem StA.new {S : SA} {H : Hp} {ls : List Int} {m t : Int} {p : Addr} {o : HO} (s : StA S H ls m t) (hp : H p = none) : StA S (upd H p o) ls m t :=
  ⟨by rw [upd_ne (ne_of_none s.ea hp)]; exact s.ea, by rw [upd_ne (ne_of_none s.el hp)]; exact s.el⟩
theorem StA.getL {S : SA} {H : Hp} {ls : List Int} {m t : Int} (s : StA S H ls m t) : DGet H S.a (.str "left") (some (.int m)) := by
  have e : (some (V.int m)) = valV (stDict S m t) kLeft := st_left.symm
  rw [e]
  exact DGet.k (k := kLeft) s.ea
theorem StA.getT {S : SA} {H : Hp} {ls : List Int} {m t : Int} (s : StA S H ls m t) : DGet H S.a (.str "turn") (some (.int t)) := by
  have e : (some (V.int t)) = valV (stDict S m t) kTurn := st_turn.symm
  rw [e]
  exact DGet.k (k := kTurn) s.ea
theorem StA.getG {S : SA} {H : Hp} {ls : List Int} {m t : Int} (s : StA S H ls m t) : DGet H S.a (.str "large") (some (.ref S.l)) := by
  have e : (some (V.ref S.l)) = valV (stDict S m t) kLarge := st_large.symm
  rw [e]
  exact DGet.k (k := kLarge) s.ea
theorem StA.getC {S : SA} {H : Hp} {ls : List Int} {m t : Int} (s : StA S H ls m t) : DGet H S.a (.str "cells") (some (.ref S.c)) := by
  have e : (some (V.ref S.c)) = valV (stDict S m t) kCells := st_cells.symm
  rw [e]
  exact DGet.k (k := kCells) s.ea
theorem st_len {S : SA} {m t : Int} : (stDict S m t).length < sizeLine := by show 4 < sizeLine; decide
theorem StA.putL {S : SA} {H : Hp} {ls : List Int} {m t k : Int} (s : StA S H ls m t) : DPut H S.a (.str "left") (.int k) (upd H S.a (.dK (stDict S k t))) := by
  have z := DPut.k (k := kLeft) (v := .int k) s.ea st_len
  rw [st_putL] at z
  exact z
theorem StA.putT {S : SA} {H : Hp} {ls : List Int} {m t k : Int} (s : StA S H ls m t) : DPut H S.a (.str "turn") (.int k) (upd H S.a (.dK (stDict S m k))) := by
  have z := DPut.k (k := kTurn) (v := .int k) s.ea st_len
  rw [st_putT] at z
  exact z
theorem ints_dp {K : PySem.W.Frag} {H : Hp} : ∀ (ns : List Int), DpAll K H (ns.map V.int) (ns.map PyData.int)
  | [] => .nil
  | n :: ns => .cons (.int n) (ints_dp ns)
theorem eqv_nil (ns : List Int) : PyData.eqv (.list (ns.map PyData.int)) (.list []) = ns.isEmpty := by
  cases ns with
  | nil => rfl
  | cons n ns => rfl
theorem lay_ints : ∀ ns : List Int, PyData.canLayAll0 (ns.map PyData.int) = true
  | [] => by simp [PyData.canLayAll0]
  | n :: ns => by simp [PyData.canLayAll0, PyData.canLay0, lay_ints ns]
theorem depth_ints : ∀ ns : List Int, PyData.depthAll (ns.map PyData.int) = 0
  | [] => by simp [PyData.depthAll]
  | n :: ns => by simp [PyData.depthAll, PyData.depth, depth_ints ns]
theorem shaped_ints (ns : List Int) : SeqAt.shaped (.list (ns.map PyData.int)) = true := by
  unfold SeqAt.shaped
  simp [PyData.canLay0, lay_ints ns, PyData.depth, depth_ints ns]
theorem shaped_nil : SeqAt.shaped (.list []) = true := shaped_ints []
/-- the draw's end: a step of ours -/
theorem draw_end {K : PySem.W.Frag} {T : Tb} {S : SA} {Hb H H' : Hp} {n : Nat} {ls : List Int} {m : Int} {t : Nat} (w : World T S Hb H) (st : StOk K S Hb H n) (d : Drw S H H') (s : StA S H' ls m t) (hm : 0 ≤ m) (hl : ∀ x ∈ ls, 0 ≤ x) (hn : ls.length ≤ 63) {n' : Nat} (ht : t ≤ n') : Stp K T S Hb H n Hb H' n' := by
  obtain ⟨g1, g2, ls0, cs0, m0, t0, g3, g4, g5, g6, g7, g8, k1, k2, k3, k4, k5, k6⟩ := st
  have nA : ∀ {b : Addr} {o : HO}, H b = some o → (∀ kvs, o ≠ .dK kvs) → b ≠ S.a := fun e h z => by
    rw [z, g6] at e
    cases e
    exact h _ rfl
  have nL : ∀ {b : Addr} {o : HO}, H b = some o → (∀ xs, o ≠ .lst xs) → b ≠ S.l := fun e h z => by
    rw [z, g7] at e
    cases e
    exact h _ rfl
  refine ⟨Ex.refl _, ⟨fun b o e => ?_, fun q hq => ?_, w.tb, ⟨_, s.ea, fun _ z => by cases z⟩, ⟨_, s.el, fun _ z => by cases z⟩, ⟨_, d.fr _ _ (w.ex _ _ g8) g4 g3, fun _ z => by cases z⟩, w.nt⟩, fun _ => ?_, fun b o e1 e2 e3 e4 _ => ⟨d.fr b o e1 e3 e4, e2⟩, d.dm⟩
  · exact d.fr b o (w.ex b o e) (fun z => by rw [z, g1] at e; cases e) (fun z => by rw [z, g2] at e; cases e)
  · obtain ⟨ps, e, t1, t2⟩ := w.tabs q hq
    refine ⟨ps, d.fr _ _ e (nA e fun _ z => by cases z) (nL e fun _ z => by cases z), t1, fun pos cv hcv => ?_⟩
    obtain ⟨c, e1, e2⟩ := t2 pos cv hcv
    exact ⟨c, e1, d.fr _ _ e2 (nA e2 fun _ z => codeO_no (o := .dK _) (fun _ z => by cases z) z.symm) (nL e2 fun _ z => codeO_no (o := .lst _) (fun _ z => by cases z) z.symm)⟩
  · exact ⟨g1, g2, ls, cs0, m, t, g3, g4, g5, s.ea, s.el, g8, hl, k2, hm, ht, hn, k6⟩
section
variable {K : PySem.W.Frag} {T : Tb} {S : SA} {E : XK} {te : TE} {FE : DT}
theorem Slots.src {Hb H : Hp} {n : Nat} {ρ : List SV} {σ : L2.St} {i : Nat} (sl : Slots K S Hb H n ρ σ) (e : ρ[i]? = some .st) : σ[i]? = some (some (.ref S.a)) ∧ StOk K S Hb H n := by
  obtain ⟨o, e1, e2, e3⟩ := sl.ok i _ e
  exact ⟨by rw [e1, e2], e3⟩
def isSt (ρ : List SV) (i : Nat) : Prop := ρ[i]? = some .st
/-- state["left"], state["turn"], state["cells"] -/
def xStLeft (i : Nat) : DT := fun ρ n P _ => isSt ρ i ∧ ∀ m : Int, 0 ≤ m → P (.int m) n
def xStTurn (i : Nat) : DT := fun ρ n P _ => isSt ρ i ∧ ∀ t : Nat, t ≤ n → P (.int t) n
def xStCells (cs : List Int) (i : Nat) : DT := fun ρ n P _ => isSt ρ i ∧ ((∀ x ∈ cs, 0 ≤ x) → cs.length ≤ 63 → P (.lst (cs.map D.int)) n)
theorem rd_stLeft {i : Nat} : DL.Rd K T S E (tDGet (tVar i) (tC (.str "left"))) (xStLeft i) := fun σ ρ Hb H n P XP Q w sl h q x => by
  obtain ⟨e, st⟩ := sl.src h.1
  obtain ⟨ga, gl, ls, cs, m, t, _, _, _, e1, e2, _, _, _, k3, _⟩ := st
  exact ⟨_, e, S.a, _, rfl, (StA.mk e1 e2 : StA S H ls m t).getL, q.now w (.int m) (h.2 m k3)⟩
theorem rd_stTurn {i : Nat} : DL.Rd K T S E (tDGet (tVar i) (tC (.str "turn"))) (xStTurn i) := fun σ ρ Hb H n P XP Q w sl h q x => by
  obtain ⟨e, st⟩ := sl.src h.1
  obtain ⟨ga, gl, ls, cs, m, t, _, _, _, e1, e2, _, _, _, _, k4, _⟩ := st
  exact ⟨_, e, S.a, _, rfl, (StA.mk e1 e2 : StA S H ls m t).getT, q.now w (.int t) (h.2 t k4)⟩
theorem rd_stCells {i : Nat} : DL.Rd K T S E (tDGet (tVar i) (tC (.str "cells"))) (xStCells S.cs i) := fun σ ρ Hb H n P XP Q w sl h q x => by
  obtain ⟨e, st⟩ := sl.src h.1
  obtain ⟨ga, gl, ls, cs, m, t, _, _, _, e1, e2, e3, _, k2, _, _, _, k6⟩ := st
  exact ⟨_, e, S.a, _, rfl, (StA.mk e1 e2 : StA S H ls m t).getC, q.now w (.lst (SqL.of e3) (DnA.ints cs)) (by rw [← k6.2] at h; exact h.2 k2 k6.1)⟩
theorem st_step {ρ : List SV} {σ : L2.St} {Hb0 H0 Hb H H' : Hp} {n0 n n' : Nat} {DD : DEn} {D : Ends} (a : Stp K T S Hb0 H0 n0 Hb H n) (sl : Sl0 K S H0 Hb H n ρ σ) (q : EOk K T S Hb0 H0 n0 Hb DD D) (s : Stp K T S Hb H n Hb H' n') (p : DD.nx ρ n') : D.nx σ H' :=
  q.nx ρ σ n' Hb H' (Ex.refl _) (a.trans s) (sl.step s) p
/-- state["left"] = e, state["turn"] = e -/
def xsStLeft (i : Nat) (F : DT) : DTS := fun DD ρ n XP => F ρ n (fun d n1 => isSt ρ i ∧ match d with | .int m => 0 ≤ m ∧ DD.nx ρ n1 | _ => False) XP
def xsStTurn (i : Nat) (F : DT) : DTS := fun DD ρ n XP => F ρ n (fun d n1 => isSt ρ i ∧ match d with | .int m => 0 ≤ m ∧ DD.nx ρ m.toNat | _ => False) XP
theorem rds_stLeft {i : Nat} (h1 : DL.Rd K T S E te FE) : RdS K T S E (sDPut (tVar i) (tC (.str "left")) te) (xsStLeft i FE) := fun σ ρ Hb0 H0 n0 Hb H n DD XP D a sl h q x =>
  h1 σ ρ Hb H n _ XP _ a.wd sl.sl h (fun d v n1 Hb1 H1 s hd p => by
    obtain ⟨es, st⟩ := (sl.step s).sl.src p.1
    obtain ⟨ga, gl, ls, cs, m, t, g3, g4, g5, e1, e2, e3, k1, k2, k3, k4, k5, k6⟩ := id st
    have sA : StA S H1 ls m t := ⟨e1, e2⟩
    cases hd with
    | int m' =>
      refine ⟨_, es, S.a, _, rfl, sA.putL, st_step (a.trans s) (sl.step s) (q.up s.ex) (draw_end s.wd st (Drw.refl H1).setA ⟨upd_same, by rw [upd_ne g5.symm]; exact e2⟩ p.2.1 k1 k5 k4) p.2.2⟩
    | _ => exact p.2.elim) (x.step a)
theorem rds_stTurn {i : Nat} (h1 : DL.Rd K T S E te FE) : RdS K T S E (sDPut (tVar i) (tC (.str "turn")) te) (xsStTurn i FE) := fun σ ρ Hb0 H0 n0 Hb H n DD XP D a sl h q x =>
  h1 σ ρ Hb H n _ XP _ a.wd sl.sl h (fun d v n1 Hb1 H1 s hd p => by
    obtain ⟨es, st⟩ := (sl.step s).sl.src p.1
    obtain ⟨ga, gl, ls, cs, m, t, g3, g4, g5, e1, e2, e3, k1, k2, k3, k4, k5, k6⟩ := id st
    have sA : StA S H1 ls m t := ⟨e1, e2⟩
    cases hd with
    | int m' =>
      have em : m' = ((m'.toNat : Nat) : Int) := by have := p.2.1; omega
      refine ⟨_, es, S.a, _, rfl, sA.putT, st_step (a.trans s) (sl.step s) (q.up s.ex) (draw_end s.wd st (Drw.refl H1).setA (t := m'.toNat) ⟨?_, by rw [upd_ne g5.symm]; exact e2⟩ k3 k1 k5 (Nat.le_refl _)) p.2.2⟩
      rw [upd_same, ← em]
    | _ => exact p.2.elim) (x.step a)
/-- while state["left"] == 0 and state["large"] != []: state["left"] = state["large"].pop(0) -/
def xsLoop (i : Nat) : DTS := fun DD ρ n _ => isSt ρ i ∧ DD.nx ρ n
theorem rds_loop {i : Nat} : RdS K T S E (tWhile (tAnd (tTest (tOp (rEqD K) (tDGet (tVar i) (tC (.str "left"))) (tC (.int 0)))) (tTest (tOp (rNeD K) (tDGet (tVar i) (tC (.str "large"))) (tLst tNil))))
    (sDPut (tVar i) (tC (.str "left")) (tBM K "list" rPopAt (tDGet (tVar i) (tC (.str "large"))) (tCons (tC (.int 0)) tNil)))) (xsLoop i) := fun σ ρ Hb0 H0 n0 Hb H n DD XP D a sl h q x => by
  obtain ⟨es, st⟩ := sl.sl.src h.1
  obtain ⟨ga, gl, ls, cs, m, t, g3, g4, gc3, e1, e2, e3, k1, k2, k3, k4, k5, k6⟩ := id st
  refine ⟨fun k σ' H' => σ' = σ ∧ ∃ ls m, k = ls.length ∧ Drw S H H' ∧ StA S H' ls m t ∧ 0 ≤ m ∧ (∀ x ∈ ls, 0 ≤ x) ∧ ls.length ≤ 63, ⟨_, rfl, ls, m, rfl, .refl H, ⟨e1, e2⟩, k3, k1, k5⟩, ?_⟩
  rintro k σ' H' ⟨rfl, ls, m, rfl, d, sA, hm0, hl, hz⟩
  have fin : ∀ {H' : Hp} {ls : List Int} {m : Int}, Drw S H H' → StA S H' ls m t → 0 ≤ m → (∀ x ∈ ls, 0 ≤ x) → ls.length ≤ 63 → D.nx σ' H' := fun d sA h1 h2 h3 =>
    st_step a sl q (draw_end a.wd st d sA h1 h2 h3 k4) h.2
  by_cases hm1 : m = 0
  · subst hm1
    refine ⟨.ref S.a, es, S.a, .int 0, rfl, sA.getL, .int 0, .int 0, .int 0, .int 0, rfl, rfl, _, rfl, iteT ?_⟩
    refine ⟨.ref S.a, es, S.a, .ref S.l, rfl, sA.getG, Nat.zero_le _, fun p hp => ⟨.list (ls.map PyData.int), .list [], .lst (SqL.of (sA.new hp).el) (ints_dp ls), .lst (SqL.of upd_same) .nil, shaped_ints ls, shaped_nil, _, rfl, ?_⟩⟩
    rw [eqv_nil]
    cases ls with
    | nil => exact fin (d.new hp) (sA.new hp) (Int.le_refl _) (fun _ h => nomatch h) (Nat.zero_le _)
    | cons x r =>
      refine iteT ⟨fun σ2 H2 => σ2 = σ' ∧ Drw S H H2 ∧ StA S H2 r x t, fun σ2 H2 ⟨h1, h2, h3⟩ => ⟨r.length, by simp, h1, r, x, rfl, h2, h3, hl x List.mem_cons_self, fun y hy => hl y (List.mem_cons_of_mem _ hy), by simp at hz; omega⟩, ?_⟩
      have sA' := sA.new (o := .lst []) hp
      refine ⟨.ref S.a, es, S.a, .ref S.l, rfl, sA'.getG, .inl ⟨rfl, _, SqL.of sA'.el⟩, S.l, _, 0, 0, .int x, rfl, rfl, sA'.el, by decide, by decide, ?_, rfl, ?_⟩
      · rw [PySem.seqIndex_of (by decide) (by simp <;> omega)]
        rfl
      · have sB : StA S (upd (upd H' p (.lst [])) S.l (.lst (r.map V.int))) r 0 t := ⟨by rw [upd_ne gc3]; exact sA'.ea, upd_same⟩
        refine ⟨.ref S.a, es, S.a, _, rfl, sB.putL, rfl, ((d.new hp).setL).setA, ⟨upd_same, ?_⟩⟩
        rw [upd_ne gc3.symm]
        exact upd_same
  · have ef : PyData.eqv (.int m) (.int 0) = false := by
      show (m == 0) = false
      simpa using hm1
    refine ⟨.ref S.a, es, S.a, .int m, rfl, sA.getL, .int m, .int 0, .int m, .int 0, rfl, rfl, _, rfl, ?_⟩
    rw [ef]
    exact iteF (fin d sA hm0 hl hz)
end
end DL

/-! an error that is caught, kept and handed back; a lambda handed to such a def -/
namespace DL
open L2 PySem PySem.Spec PyProof.Rows
open Evl (Ex ex_l ex_t sz_of)
section
variable {X : Cx} {pins : List (Addr × Obj)} {σ : L2.St} {H : Hp} {s : Shared}
theorem exT_ok {P : Program} {w : PySem.World} {H : Hp} {h : Heap} {a C : Addr} {d : Option Addr} {oe : Obj} {vs : Array Value} (e : h.get? a = some oe) (z : Zc (.ref C) d oe) (hd : oe.data = .fields vs) : ObjOk P w H h a (ExT C d a) :=
  ⟨⟨oe, vs, e, z, hd⟩, ⟨oe, e⟩, fun _ _ ⟨o, v, q, r⟩ k => ⟨o, v, k o q, r⟩⟩
/-- an object that the entry did not know is tracked from now on -/
theorem adopt {a C : Addr} {d : Option Addr} {oe : Obj} {vs : Array Value} (I : Inv X pins σ H s) (e : s.heap.get? a = some oe) (z : Zc (.ref C) d oe) (hd : oe.data = .fields vs) (na : H a = none) (nL : a ≠ X.env.locals)
    (n0 : X.s_0.heap.get? a = none) (np : ∀ p ∈ X.pn ++ pins, p.1 ≠ a) : Inv X pins σ (upd H a (ExT C d a)) s := by
  have old : ∀ b o, X.s_0.heap.get? b = some o → b ≠ a := fun b o q r => by
    rw [r, n0] at q
    cases q
  have tr : ∀ b o, H b = some o → b ≠ a := fun b o q => ne_of_none q na
  have cel : ∀ x c, X.env.cells.lookup x = some c → c ≠ a := fun x c q r => by
    obtain ⟨v, o, h1, h2⟩ := I.cell x c q
    rw [r, e] at h1
    cases h1
    rw [hd] at h2
    cases h2
  refine ⟨I.ok, I.os, I.bare, ⟨I.base.keep, I.base.slot, ?_, I.base.there, ?_, ?_, ?_⟩, I.loc, I.cell, ?_, ?_, ?_, ?_, I.len⟩
  · intro b o q1 q2 q3
    rw [upd_ne (old b o q1)]
    exact I.base.free b o q1 q2 q3
  · intro b xs q
    have r := I.base.tups b xs q
    rw [upd_ne (tr b _ r)]
    exact r
  · intro b o u q
    have r := I.base.frzs b o u q
    rw [upd_ne (tr b _ r)]
    exact r
  · intro b ps q
    obtain ⟨m, r⟩ := I.base.tbls b ps q
    exact ⟨m, by rw [upd_ne (tr b _ r)]; exact r⟩
  · rw [upd_ne nL.symm]
    exact I.free
  · intro x c q
    rw [upd_ne (cel x c q)]
    exact I.freeC x c q
  · intro p hp
    obtain ⟨h1, h2, h3⟩ := I.pin p hp
    exact ⟨h1, by rw [upd_ne (np p hp)]; exact h2, h3⟩
  · intro b u q
    by_cases hb : b = a
    · rw [hb, upd_same] at q
      cases q
      rw [hb]
      exact exT_ok e z hd
    · rw [upd_ne hb] at q
      refine (I.hok b u q).stay (fun _ _ _ r => r) (fun c r => ?_) fun c xs r => ?_
      · rw [upd_ne (tr c _ r)]
        exact r
      · rw [upd_ne (tr c _ r)]
        exact r
end
/-- what try: .. except x as n: y = n wishes of an error: n in slot i, y in slot j -/
def wKeep (K : PySem.W.Frag) (c : Value) (i j m : Nat) (D : Ends) : WX := fun cls d σ H => ∃ b, PySem.W.exmOne K cls c = some b ∧
  (b = true → ∀ a C, cls = .ref C → H a = none → σ.length = m → ∃ C', cls = .ref C' ∧ D.nx (((σ.set i (some (.ref a))).set j (some (.ref a))).set i none) (upd H a (ExT C' d a))) ∧ (b = false → False) ∧ ∃ C, cls = .ref C
section
variable {X : Cx} {x n y : Str} {c : Value} {i j : Nat} {body : List Stmt} {np p1 p2 p3 pos pos' : Pos} {tb : WX → TS}
theorem ps_try_keep (hs : X.stack = X.env :: X.outer) (hf : X.env.frame = some X.env.locals) (hN : X.N.Nodup) (hi : X.N[i]? = some n) (hln : X.env.kindOf n = some .local) (hj : X.N[j]? = some y) (hly : X.env.scope.names.lookup y = some .local) (hc : Names X x c) (hex : X.ex = []) (hd1 : (n == ("__debug__" : Str)) = false) (hd2 : (n == ("__classdict__" : Str)) = false)
    (hb : ∀ (W : WX) (pn : List (Addr × Obj)) (xe : Value → Shared → Prop), Takes (X.tr pn xe) W → PassesOwn (model X.prog X.w) X.A X.env xe → PSs (X.tr pn xe) body (tb W)) :
    PS X (.Try body [.ExceptHandler (some (.Name x np)) (some n) [.Assign [.Name y p1] (.Name n p2) p3] pos'] [] [] pos) (fun D σ H => tb (wKeep X.K c i j X.N.length D) D σ H) := by
  refine ⟨fun pins s σ H D I h => wpAny_Try_except ?_⟩
  have ok := I.ok
  have hfr : X.A.frames = some (X.env :: X.outer) := ok.frames.trans (congrArg some hs)
  have run := (hb (wKeep X.K c i j X.N.length D) (X.pn ++ pins) (fun e s1 => wpAny (model X.prog X.w) X.A (noteFrame e X.env) (fun _ s2 => wpAny (model X.prog X.w) X.A (setFlight e none) (fun _ s3 =>
    wpAny (model X.prog X.w) X.A (handleBy e X.env [.ExceptHandler (some (.Name x np)) (some n) [.Assign [.Name y p1] (.Name n p2) p3] pos']) (SP X pins D) X.xe s3) X.xe s2) X.xe s1) ?_ PassesOwn.looking).run [] s σ H D (I.toTry _) h
  · refine wpAny_mono run (fun f s1 hsp => ?_) fun _ _ he => he
    -- the body came to its end
    cases f with
    | next =>
      obtain ⟨σ', H', J, q⟩ := hsp
      exact wpAny_execs_nil ⟨σ', H', J.ofTry ok, q⟩
    | brk =>
      obtain ⟨σ', H', J, q⟩ := hsp
      exact ⟨σ', H', J.ofTry ok, q⟩
    | cont =>
      obtain ⟨σ', H', J, q⟩ := hsp
      exact ⟨σ', H', J.ofTry ok, q⟩
    | ret u =>
      obtain ⟨v, σ', H', J, r, q⟩ := hsp
      exact ⟨v, σ', H', J.ofTry ok, r, q⟩
  · -- an error comes
    rintro u s' ⟨a, B, sI, pins', σ', H', cls, d, rfl, J', nb, up, sky, na, os, ag, b, hb1, hyes, hno, C, rfl⟩
    have J : Inv X pins σ' H' sI := J'.ofTry ok
    have hB : B.get? a = none := by
      rcases sky with ⟨_, z, _⟩ | ⟨_, z, _⟩ | ⟨_, z, _⟩ <;> exact z
    have sky' : Sky B (X.env :: X.outer) a (Zc (.ref C) d) X.env.locals s'.heap := hs ▸ sky
    refine Sky.land (env := X.env) Zc.steady hfr hf sky' fun h3 fl3 up3 => ?_
    have J3 : Inv X pins σ' H' { s' with heap := h3 } := J.landed nb fl3.1 (up.trans up3) os ag
    obtain ⟨oe3, vs3, he3, hz3, hd3⟩ := fl3.there
    have nfr : a ∉ frs (X.env :: X.outer) := fun hm => by
      obtain ⟨_, o, e1, e2⟩ := fl3.2.2.1.mem hm
      rw [he3] at e1
      cases e1
      exact e2 _ hd3
    have nL : a ≠ X.env.locals := fun z => nfr (List.mem_filterMap.mpr ⟨X.env, List.mem_cons_self, by rw [hf, z]⟩)
    have nF : a ∉ X.fs := fun hm => by
      obtain ⟨e, he, q⟩ := List.mem_filterMap.mp hm
      exact nfr (List.mem_filterMap.mpr ⟨e, List.mem_cons_of_mem _ he, q⟩)
    -- what stood at the entry is another object
    have inB : ∀ b o, sI.heap.get? b = some o → b ≠ X.env.locals → b ∉ X.fs → b ≠ a := fun b o e1 e2 e3 z => by
      have q := nb b o e1 fun hm => (List.mem_cons.mp (J.stkSub b hm)).elim e2 e3
      rw [z, hB] at q
      cases q
    have n0 : X.s_0.heap.get? a = none := by
      cases q : X.s_0.heap.get? a with
      | none => rfl
      | some o =>
        obtain ⟨o', q'⟩ := J.base.there a o q (by rw [hex]; exact fun z => nomatch z)
        exact absurd rfl (inB a o' q' nL nF)
    have npn : ∀ p ∈ X.pn ++ pins, p.1 ≠ a := fun p hp => by
      obtain ⟨h1, _, h3, h4, _⟩ := J.pin p hp
      exact inB p.1 p.2 h1 h3 h4
    refine wpAny_handleBy_cons (codeAny_handlers_test ?_) (by intro q; cases q)
    have S3 := J3.suite he3 hd3 na nL nF
    have LM := PySem.W.exm_one (M := model X.prog X.w) J3.kIn (fun A Q E s k q => wpAny_typeOf_ref (k _ _ he3) (by rw [hz3.1]; exact q)) hb1
    have goes : wpAny (model X.prog X.w) (X.A.mark (some (.ref a))) (eval (.Name x np) X.env) (fun v s1 => v = c ∧ s1 = { s' with heap := h3 }) (fun _ _ => False) { s' with heap := h3 } := by
      obtain ⟨hg, hdbg, hm | ⟨hm, hv, hnn⟩⟩ := hc
      · exact ld_glob (X := X.suite a ((a, oe3) :: (X.pn ++ pins))) S3 hg hm ⟨rfl, rfl⟩ hdbg
      · exact ld_blt (X := X.suite a ((a, oe3) :: (X.pn ++ pins))) S3 hg hm hv ⟨rfl, rfl⟩ hnn hdbg
    refine wpAny_mono goes (fun v s1 hv => ?_) fun _ _ z => False.elim z
    obtain ⟨e1, e2⟩ := hv
    subst e1
    subst e2
    refine LM.here ?_
    cases b with
    | false => exact (hno rfl).elim
    | true =>
      refine codeAny_handlers_suite_as ?_
      refine HandSPX.lands_againZ fl3 fun h4 fl4 up4 => ?_
      have J4 : Inv X pins σ' H' { s' with heap := h4 } := J.landed nb fl4.1 ((up.trans up3).trans up4) os ag
      obtain ⟨oe4, vs4, he4, hz4, hd4⟩ := fl4.there
      have S4 := J4.suite he4 hd4 na nL nF
      refine store_ok (X := X.suite a ((a, oe4) :: (X.pn ++ pins))) (v := .ref a) S4 hN hi (.inl hln) rfl (fun s5 S5 => ?_) (.inr hln)
      have il : i < σ'.length := by
        rw [J.len]
        exact (List.getElem?_eq_some_iff.mp hi).1
      have asg : PSs (X.suite a ((a, oe4) :: (X.pn ++ pins))) [.Assign [.Name y p1] (.Name n p2) p3] (tAsg (tVar i) (gName j)) :=
        pss_one (ps_set (X := X.suite a ((a, oe4) :: (X.pn ++ pins))) (i := j) hN hj (.inl hly) (pe_var (X := X.suite a ((a, oe4) :: (X.pn ++ pins))) (i := i) hi (.inl hln) hd1 hd2) (hf := .inr hly))
      refine wpAny_mono (asg.run [] s5 _ H' { nx := fun σ6 H6 => σ6 = (σ'.set i (some (.ref a))).set j (some (.ref a)) ∧ H6 = H', rt := fun _ _ => False } S5 ⟨.ref a, List.getElem?_set_self il, rfl, rfl⟩) (fun f s6 hsp => ?_) (fun _ _ z => False.elim z)
      cases f with
      | next =>
        obtain ⟨σ6, H6, S6, rfl, rfl⟩ := hsp
        refine gone_ok (X := X.suite a ((a, oe4) :: (X.pn ++ pins))) S6 hN hi hln fun s7 S7 => ?_
        obtain ⟨e7, _⟩ := S7.pin (a, oe4) (List.mem_append_left _ List.mem_cons_self)
        obtain ⟨C', eC, q⟩ := hyes rfl a C rfl na J.len
        cases eC
        exact ⟨_, _, adopt (S7.unsuite ok) e7 hz4 hd4 na nL n0 npn, q⟩
      | brk =>
        obtain ⟨_, _, _, q⟩ := hsp
        exact False.elim q
      | cont =>
        obtain ⟨_, _, _, q⟩ := hsp
        exact False.elim q
      | ret u =>
        obtain ⟨_, _, _, _, _, q⟩ := hsp
        exact False.elim q
end
end DL

/-! x(lambda: body), x the def that hands back what was caught -/
namespace DL
open L2 PySem PySem.Spec PyProof.Rows
open Evl (Ex ex_l ex_t sz_of)
/-- caught = None; try: work() except S as error: caught = error; return caught -/
def TTc (K : PySem.W.Frag) (CS : Addr) : (XK → Hp → VK → Prop) → Hp → VK → Prop := fun tl H Q =>
  tl (fun cls od H' => ∃ C, cls = .ref C ∧ PySem.W.exmOne K cls (.ref CS) = some true ∧ ∀ a, H' a = none → Q (.ref a) (upd H' a (ExT C od a))) H (fun _ H' => ∃ v, (some (some V.non) : Option (Option V)) = some (some v) ∧ Q v H')
def sCaught : Str := "caught"
def sError : Str := "error"
def sWork : Str := "work"
section
variable {X : Cx}
theorem caught_gives {x e q : Str} {sg : Scope} {g CS : Addr} {cdg : Value} {j1 : Nat} {p0 p1 p2 p3 p4 p5 p6 p7 p8 p9 pa pb pc pd : Pos} (hge : sg.names.lookup e = some .globalImplicit) (hme : X.mg e = some (.ref CS)) (hde : (e == ("__debug__" : Str)) = false)
    (h1 : sg.names.lookup sCaught = some .local) (h2 : sg.names.lookup sError = some .local) :
    LamX.GivesTo X ["work", "caught", "error"] x sg g cdg [.Assign [.Name "caught" p0] (.Constant .none j1 p1) p2,
      .Try [.Expr (.Call (.Name "work" p3) [] [] p4) p5] [.ExceptHandler (some (.Name e p6)) (some "error") [.Assign [.Name "caught" p7] (.Name "error" p8) p9] pa] [] [] pb, .Return (some (.Name "caught" pc)) pd] "work" q (TTc X.K CS) := by
  intro f c' s H Q tl act hc h
  have hgl : Gl (cxOf C8.CX0 X.prog X.w X.K X.mg X.base ["work", "caught", "error"] x sg g cdg X.A X.stack s H C8.E0).nox e := hge
  have nd : (["work", "caught", "error"] : List Str).Nodup := by decide +kernel
  refine ⟨_, pss_cons (ps_set (X := (cxOf C8.CX0 X.prog X.w X.K X.mg X.base ["work", "caught", "error"] x sg g cdg X.A X.stack s H C8.E0).nox) (i := 1) nd rfl (.inl h1) pe_non (hf := .inr h1))
    (pss_cons (ps_try_keep (X := (cxOf C8.CX0 X.prog X.w X.K X.mg X.base ["work", "caught", "error"] x sg g cdg X.A X.stack s H C8.E0).nox) (i := 2) (j := 1) (c := .ref CS)
      (tb := fun W D σ H => ∃ Ech : XK, (∀ cls d σ' H', Ech cls d H' → W cls d σ' H') ∧ σ[0]? = some (some (.ref f)) ∧ H c' = some (LamX.CodeO c' q) ∧ tl Ech H (fun _ H' => D.nx σ H'))
      rfl rfl nd rfl h2 rfl h1 ⟨hgl, hde, .inl hme⟩ rfl (by decide) (by decide) (fun W pn xe tk _ => ?_))
    (pss_one (ps_ret (pe_var (X := (cxOf C8.CX0 X.prog X.w X.K X.mg X.base ["work", "caught", "error"] x sg g cdg X.A X.stack s H C8.E0).nox) (i := 1) rfl (.inl h1))))), ?_⟩
  · refine ⟨fun pins s' σ H' D I h' => ?_⟩
    obtain ⟨Ech, hW, g1, g2, g3⟩ := h'
    exact (pss_one (ps_expr (act W pn xe Ech _ _ tk hW))).run pins s' σ H' D I ⟨g1, g2, g3⟩
  · refine ⟨fun cls od H' => ∃ C, cls = .ref C ∧ PySem.W.exmOne X.K cls (.ref CS) = some true ∧ ∀ a, H' a = none → Q (.ref a) (upd H' a (ExT C od a)), fun cls od σ' H' hx => ?_, rfl, hc, h⟩
    obtain ⟨C, rfl, em, hq⟩ := hx
    refine ⟨true, em, fun _ a C2 e2 na hl => ⟨C, rfl, ?_⟩, (fun z => nomatch z), C, rfl⟩
    refine ⟨.ref a, ?_, hq a na⟩
    have l3 : σ'.length = 3 := hl
    rw [List.getElem?_set_ne (by decide), List.getElem?_set_self (by rw [List.length_set, l3]; decide)]
end
/-- what is known of the class of an error that the program may raise -/
structure ErrC (K : PySem.W.Frag) (CS C : Addr) : Prop where
  ec : ExcC K C
  nt : NoTy K C
  em : PySem.W.exmOne K (.ref C) (.ref CS) = some true
section
variable {K : PySem.W.Frag} {T : Tb} {S : SA} {E : XK}
def xLam (K : PySem.W.Frag) (CS : Addr) (F : DT) : DT := fun ρ n P _ => F ρ n (fun _ n1 => P .non n1) (fun C ns ds n1 => ErrC K CS C ∧ P (.exc C ns ds) n1)
/-- all but the tables stays: a step of ours -/
theorem Stp.lam {Hb H H1 : Hp} {n : Nat} (w : World T S Hb H) (e : LamX.ExtN H H1) (t : LamX.Tabs T H1) : Stp K T S Hb H n Hb H1 n := by
  have k : ∀ b o, H b = some o → (∀ ps, o ≠ .tbl ps) → H1 b = some o := e
  have kO : ∀ {b : Addr}, Obn H b → Obn H1 b := fun ⟨o, h, ho⟩ => ⟨o, k _ _ h ho, ho⟩
  refine ⟨Ex.refl _, ⟨fun b o q => k b o (w.ex b o q) (fun ps z => by subst z; exact w.nt b ps q), t, w.tb, kO w.sa, kO w.sl, kO w.sc, w.nt⟩, fun h0 => ?_, fun b o e1 e2 _ _ e5 => ⟨k b o e1 e5, e2⟩, fun b f o h => ?_⟩
  · obtain ⟨g1, g2, ls, cs, m, t, g3, g4, g5, g6, g7, g8, rest⟩ := h0
    exact ⟨g1, g2, ls, cs, m, t, g3, g4, g5, k _ _ g6 (fun _ z => by cases z), k _ _ g7 (fun _ z => by cases z), g8, rest⟩
  · by_cases ht : ∃ ps, o = .tbl ps
    · exact ht
    · exact f o (k b o h fun ps z => ht ⟨ps, z⟩)
theorem rd_lam {CS : Addr} {te : XK → TE} {F : DT} (h : ∀ E, DL.Rd K T S E (te E) F) : DL.Rd K T S E (LamX.tLam T (TTc K CS) te) (xLam K CS F) := fun σ ρ Hb H n P XP Q w sl hf q x => by
  refine ⟨w.tabs, fun H1 eN T1 => ?_⟩
  have s : Stp K T S Hb H n Hb H1 n := .lam w eN T1
  refine h _ σ ρ Hb H1 n _ _ _ s.wd (sl.step s) hf (fun d v n2 Hb2 H2 s2 hv p => ⟨.non, rfl, q .non _ n2 Hb2 H2 (s.trans s2) .non p⟩) fun C ns ds n2 od Hb2 H2 s2 hx p => ?_
  obtain ⟨ec, p⟩ := p
  refine ⟨C, rfl, ec.em, fun a na => (q.step (s.trans s2)).new s2.wd na ?_ p⟩
  obtain ⟨fs, h0, h1, h2⟩ := hx
  have eb := Ex.new (o := ExT C od a) (free_of s2.wd.ex na)
  refine .exc ec.ec ec.nt upd_same ?_ h1 (h2.up eb)
  rcases h0 with h0 | ⟨dd, h0, hne, h3⟩
  · exact .inl h0
  · exact .inr ⟨dd, h0, hne, eb _ _ h3⟩
end
end DL

/-! promises that ask for a frame in which nothing is being shown -/
namespace DL
open L2 PySem PySem.Spec PyProof.Rows
open Evl (Ex ex_l ex_t sz_of)
/-- what a def promises where no repr is under way -/
structure FnG (P : Program) (w : PySem.World) (K : PySem.W.Frag) (mg : Str → Option Value) (base : Heap) (CX : CXT) (k : Nat) (f : Addr) (fd : FuncData) (ps : List Str) (sp : Sp) : Prop where
  many : ∀ vs H Q E, sp vs H Q E → vs.length = ps.length
  goes : ∀ (A : Around), A.guards = some [] → Room k A → ∀ (out : List Env) (s : Shared) (H : Hp) (args : PySem.Args) (us : List Value) (vs : List V) (Q : VK) (E : XK), sp vs H Q E → Vals vs us → BindsTo s fd args (ps.zip us) → Env0 P w K mg base A out s H →
    codeAny (model P w) A (.call (.ref f) args) (CR CX out P w H s Q E) s
section
variable {P : Program} {w : PySem.World} {K : PySem.W.Frag} {mg : Str → Option Value} {base : Heap} {CX : CXT} {j k : Nat} {f : Addr} {fd : FuncData} {ps : List Str} {sp : Sp}
theorem FnG.of (F : FnOk P w K mg base CX k f fd ps sp) : FnG P w K mg base CX k f fd ps sp :=
  ⟨F.len, fun A _ hr out s H args us vs Q E h r b e => F.run A out s H args us vs Q E hr e b r h⟩
theorem FnG.mono (F : FnG P w K mg base CX j f fd ps sp) (h : j ≤ k) : FnG P w K mg base CX k f fd ps sp :=
  ⟨F.many, fun A g hr => F.goes A g (hr.mono h)⟩
/-- from the body's reading in a frame that shows nothing -/
theorem fnG_of {x qual : Str} {st : Stmt} {N : List Str} (F : Fun K x qual st f fd) (Sc : FnScope N ps (defScope st)) (len : ∀ vs H Q E, sp vs H Q E → vs.length = ps.length)
    (hb : ∀ (cdv : Value) (A : Around) (out : List Env) (s : Shared) (H : Hp) (vs : List V) (Q : VK) (E : XK), A.guards = some [] → Room k (A.deeper (envOfC qual (defScope st) s.heap.objs.size f cdv)) → sp vs H Q E →
      ∃ t, PSs (cxOf CX P w K mg base N qual (defScope st) f cdv A out s H E) (defBody st) t ∧ t { nx := fun _ H' => Q .non H', rt := Q } (start N vs) H) : FnG P w K mg base CX (k + 1) f fd ps sp := by
  obtain ⟨oc, od, kV, doc, pm, an, cdv, ct, osl, rfl, lk, hcd⟩ := F.ex
  exact ⟨len, fun A g hr out s H args us vs Q E h r b e => LamX.run_ofS lk hcd Sc hr e b r (len _ _ _ _ h) fun hr2 => hb cdv A out s H vs Q E g hr2 h⟩
end
section
variable {X : Cx} {CX : CXT} {k : Nat} {f : Addr} {fd : FuncData} {ps : List Str} {ds : List Value} {dvs : List V} {sp : Sp} {E : XK} {x : Str} {p pos : Pos} {e : Expr} {es : List Expr} {t : TA}
theorem runG {pins : List (Addr × Obj)} {σ : L2.St} {H : Hp} {s : Shared} {Q : VK} {us : List Value} {vs : List V} (F : FnG X.prog X.w X.K X.mg X.base CX k f fd ps sp) (g : X.A.guards = some []) (hr : Room k X.A) (hb : Binds X.K fd ps ds) (hd : Vals dvs ds) (hx : Passes CX X E)
    (I : Inv X pins σ H s) (r : Vals vs us) (h : sp (vs ++ dvs) H Q E) : wpAny (model X.prog X.w) X.A (call (.ref f) us) (EP X pins σ Q) X.xe s := by
  have all := r.append hd
  have hz : (us ++ ds).length = ps.length := all.length ▸ F.many _ _ _ _ h
  have go := F.goes X.A g hr X.stack s H ⟨us, []⟩ (us ++ ds) (vs ++ dvs) Q E h all (hb s us I.kIn hz) I.env0
  refine wpAny_call (codeAny_mono go ?_)
  rintro (e | fl) s2 hq
  · exact hx pins σ H s e s2 I hq
  · cases fl with
    | ret u => exact I.after hq
    | _ => exact False.elim hq
theorem pe_callG (F : FnG X.prog X.w X.K X.mg X.base CX k f fd ps sp) (g : X.A.guards = some []) (hr : Room k X.A) (hg : Gl X x) (hm : X.mg x = some (.ref f)) (hk : PySem.W.keepIn X.K (.ref f) = true) (hb : Binds X.K fd ps ds) (hd : Vals dvs ds) (hx : Passes CX X E)
    (ha : PA X (e :: es) t) (hdb : (x == ("__debug__" : Str)) = false := by decide) (he : starEach (e :: es) X.env = (false, eval e X.env) :: starEach es X.env := by rfl) (hpl : (backTo pos (starEach es X.env)).any (·.1) = false := by rfl) :
    PE X (.Call (.Name x p) (e :: es) [] pos) (tCall sp dvs E t) :=
  ⟨fun pins s σ H Q I h => wpAny_Call_Name_kw (ld_glob I hg hm (PySem.W.callWith_K (h₀ := X.base) I.ok.mod.kin hk (thn (ha.run pos pins s σ H _ I h) fun us s1 q => by
    obtain ⟨vs, H1, I1, r, q⟩ := q
    exact ⟨I1.kIn, runG F g hr hb hd hx I1 r q⟩) he hpl) hdb)⟩
end
section
variable {P : Program} {w : PySem.World} {K : PySem.W.Frag} {T : Tb} {mg : Str → Option Value} {base : Heap}
theorem fnG_okD {x qual : Str} {st : Stmt} {f : Addr} {fd : FuncData} {N ps : List Str} {k : Nat} {DS : DSp0} (F : Fun K x qual st f fd) (Sc : FnScope N ps (defScope st)) (len : ∀ ss n P, DS ss n P → ss.length = ps.length)
    (hb : ∀ (S : SA) (cdv : Value) (A : Around) (outer : List Env) (s : Shared) (H : Hp) (E : XK), A.guards = some [] → Room k (A.deeper (envOfC qual (defScope st) s.heap.objs.size f cdv)) →
      ∃ ts G, PSs (cxOf CX0 P w K mg base N qual (defScope st) f cdv A outer s H E).nox (defBody st) ts ∧ RdS K T S E0 ts G ∧ ∀ ss n P, DS ss n P → G { nx := fun _ n => P .non n, rt := P } (startS N ss) n xF) :
    FnG P w K mg base CX0 (k + 1) f fd ps (sp0 K T DS) := by
  refine fnG_of F Sc (fun vs H Q E h => ?_) (fun cdv A outer s H vs Q E g hr h => ?_)
  · obtain ⟨S, Hb, n, ss, P, XP, _, ha, ⟨_, hd⟩, _⟩ := h
    rw [← ha.len]
    exact len ss n P hd
  · obtain ⟨S, Hb, n, ss, P, XP, wd, ha, ⟨ho, hd⟩, q, _⟩ := h
    obtain ⟨ts, G, h1, h2, h3⟩ := hb S cdv A outer s H E g hr
    exact ⟨ts, h1.nox, h2 _ _ Hb H n Hb H n _ xF _ (.refl wd) ⟨.start ha (noL_of ho), start_fr ho⟩ (h3 ss n P hd) ⟨fun ρ σ n' Hb' H' _ st _ p => q _ _ _ _ _ st .non p, q, fun _ _ _ _ _ _ _ _ p => p.elim, fun _ _ _ _ _ _ _ _ p => p.elim⟩ .none⟩
end
end DL

/-! the end of a law that shows what it saw -/
namespace DL
open L2 PySem PySem.Spec PyProof.Rows LamX
/-- what the walk knows at the entry: empty tables ts, the script at a where the frame has it not -/
def begH (K : PySem.W.Frag) (ts : List Addr) (a : Addr) (ob : Obj) (u : HO) : Hp := fun b => if b ∈ ts then some (.tbl #[]) else if b = a ∧ K.lookup a = none then some (.frz ob u) else none
section
variable {K : PySem.W.Frag} {ts : List Addr} {a b : Addr} {ob : Obj} {u : HO}
theorem begH_t (h : b ∈ ts) : begH K ts a ob u b = some (.tbl #[]) := if_pos h
theorem begH_a (h : a ∉ ts) (k : K.lookup a = none) : begH K ts a ob u a = some (.frz ob u) := by
  unfold begH
  rw [if_neg h, if_pos ⟨rfl, k⟩]
theorem begH_inv {o : HO} (h : begH K ts a ob u b = some o) : (b ∈ ts ∧ o = .tbl #[]) ∨ (b ∉ ts ∧ b = a ∧ K.lookup a = none ∧ o = .frz ob u) := by
  unfold begH at h
  split at h
  · rename_i m
    exact .inl ⟨m, (Option.some.inj h).symm⟩
  · rename_i m
    split at h
    · rename_i q
      exact .inr ⟨m, q.1, q.2, (Option.some.inj h).symm⟩
    · cases h
theorem begH_n (h1 : b ∉ ts) (h2 : b = a → K.lookup a = none → False) : begH K ts a ob u b = none := by
  cases h : begH K ts a ob u b with
  | none => rfl
  | some o =>
    rcases begH_inv h with ⟨m, _⟩ | ⟨_, e, k, _⟩
    · exact (h1 m).elim
    · exact (h2 e k).elim
end
section
variable {P : Program} {w : PySem.World} {K : PySem.W.Frag} {mg mb : Str → Option Value} {CX : CXT} {k : Nat} {fa a : Addr} {cs : List (Addr × Addr)} {fd : FuncData} {x : Str} {sp : Sp} {s : Shared} {vs : List Value} {ns : List Int}
theorem end_call (KX : K.In s.heap) (gl : s.heap.Ns mainGlobals mg) (bl : s.heap.Ns builtinsNs mb) (bb : ∀ x : Str, x ≠ "__name__" → mb x = bootBuiltins x) (nl : s.heap.NoLimit) (ng : s.gens = #[])
    (hT : ∀ p ∈ cs, s.heap.get? p.2 = some { cls := .none, data := .fields #[] }) (nT : ∀ p ∈ cs, K.lookup p.2 = none) (hC : ∀ p ∈ cs, PySem.W.CodeHd s.heap p.1 p.2)
    (bm : ∃ (m : Addr) (o : Obj), mg "__builtins__" = some (.ref m) ∧ m ≠ builtinsNs ∧ s.heap.get? m = some o ∧ o.cls = .type "module" ∧ o.dict = some builtinsNs ∧ o.data = .plain)
    (ha : s.heap.get? a = some { cls := .type "list", data := .seq vs.toArray }) (hi : IntsAre vs ns) (hl : ns.length ≤ sizeLine) (hr : Room k callerA)
    (F : ∀ base : Heap, K.In base → base.Ns mainGlobals mg → (∀ p ∈ cs, TabB base mg p.1 p.2) → FnG P w K mg base CX k fa fd [x] sp) (hbind : ∀ (s : Shared) (u : Value), BindsTo s fd ⟨[u], []⟩ [(x, u)])
    (hsp : ∀ H : Hp, (∀ p ∈ cs, H p.2 = some (.tbl #[])) → SqL K H a (ns.map V.int) → sp [.ref a] H (fun v _ => v = .bl true) fun _ _ _ => False)
    (hX : ∀ H e s', CX [] H s (fun _ _ _ => False) e s' → False) :
    codeAny (model P w) callerA (.call (.ref fa) ⟨[.ref a], []⟩) (fun r s' => r = .ok (.ret (.bool true)) ∧ OldK s.heap s'.heap ∧ s'.os = s.os ∧ AllBare s'.gens) s := by
  have hv := vals_ints hi
  have hn : vs.length = ns.length := hi.length
  have seen : ∀ b ∈ cs.map (·.2), s.heap.get? b = some { cls := .none, data := .fields #[] } ∧ K.lookup b = none := fun b m => by
    obtain ⟨p, hp, rfl⟩ := List.mem_map.mp m
    exact ⟨hT p hp, nT p hp⟩
  have na : a ∉ cs.map (·.2) := fun m => by
    have z := (seen a m).1
    rw [ha] at z
    injection z with z
    injection z with _ _ z
    cases z
  have here : ∀ p ∈ cs, p.2 ∈ cs.map (·.2) := fun p hp => List.mem_map.mpr ⟨p, hp, rfl⟩
  let H : Hp := begH K (cs.map (·.2)) a { cls := .type "list", data := .seq vs.toArray } (.lst (ns.map V.int))
  have HT : ∀ p ∈ cs, H p.2 = some (.tbl #[]) := fun p hp => begH_t (here p hp)
  have HS : SqL K H a (ns.map V.int) := by
    cases q : K.lookup a with
    | none => exact .inl (.inr ⟨_, begH_a na q⟩)
    | some o =>
      have z := KX a o q
      rw [ha] at z
      cases z
      exact .inr ⟨_, vs.toArray, _, q, rfl, rfl, rfl, by simpa [hn] using hl, by simpa using hv⟩
  have HO : HOk P w H s.heap := fun b o h => by
    rcases begH_inv h with ⟨m, rfl⟩ | ⟨_, rfl, _, rfl⟩
    · exact (seen b m).1
    · exact ⟨ha, by simpa using hl, vs, _, hv, ha⟩
  -- an object of another form is not tracked
  have apart : ∀ {b : Addr} {o : Obj}, s.heap.get? b = some o → o.data ≠ .seq vs.toArray → o.data ≠ .fields #[] → H b = none := fun {b o} e h1 h2 => begH_n (fun m => by
    have z := (seen b m).1
    rw [e] at z
    cases z
    exact h2 rfl) fun r _ => by
      subst r
      rw [ha] at e
      cases e
      exact h1 rfl
  have space : ∀ {b : Addr} {m : Str → Option Value}, s.heap.Ns b m → (hidT s.heap H).Ns b m := fun {b m} ⟨o, es, ep, e, d, r⟩ => ⟨o, es, ep, hidT_get e (apart e (by rw [d]; exact fun z => by cases z) (by rw [d]; exact fun z => by cases z)), d, r⟩
  have kin : K.In (hidT s.heap H) := fun b o e => hidT_get (KX b o e) (begH_n (fun m => by rw [(seen b m).2] at e; cases e) fun r q => by rw [r, q] at e; cases e)
  have md : L2.Mod K mg (hidT s.heap H) := ⟨kin, space gl, ⟨mb, space bl, bb⟩, nl.imp fun c h => ⟨space h.1, h.2⟩⟩
  have glD : ∃ o es ep, s.heap.get? mainGlobals = some o ∧ o.data = .dict es ep := by
    obtain ⟨o, es, ep, e, d, _⟩ := gl
    exact ⟨o, es, ep, e, d⟩
  have tb : ∀ p ∈ cs, TabB (hidT s.heap H) mg p.1 p.2 := fun p hp => by
    obtain ⟨og, es, ep, eg, dg⟩ := glD
    refine ⟨?_, ?_, fun z => by rw [z, hT p hp] at eg; cases eg; cases dg⟩
    · obtain ⟨o, us, f, tf, fl, tg, iF, tx, tt, e, c1, c2, c3, rest⟩ := hC p hp
      refine ⟨o, us, f, tf, fl, tg, iF, tx, tt, hidT_get e (apart e (by rw [c2]; exact fun z => by cases z) ?_), c1, c2, c3, rest⟩
      rw [c2]
      intro z
      cases z
      simp at c3
    · obtain ⟨m, o, b1, b2, b3, b4, b5, b6⟩ := bm
      refine ⟨m, o, b1, b2, fun z => ?_, fun z => ?_, hidT_get b3 (apart b3 (by rw [b6]; exact fun z => by cases z) (by rw [b6]; exact fun z => by cases z)), b4, b5, b6⟩
      · rw [z, eg] at b3
        cases b3
        rw [dg] at b6
        cases b6
      · rw [z, hT p hp] at b3
        cases b3
        cases b6
  have e0 : Env0 P w K mg (hidT s.heap H) callerA [] s H := {
    frames := rfl
    mod := md
    bs := fun b o e => of_hidT e
    bsz := Nat.le_of_eq (hidT_size _ _)
    funs := trivial
    frf := fun b m => absurd m (by show b ∉ ([] : List Addr); simp)
    hok := HO
    bare := .of_eq ng }
  refine codeAny_mono ((F _ kin (space gl) tb).goes callerA rfl hr [] s H ⟨[.ref a], []⟩ [.ref a] [.ref a] _ _ (hsp H HT HS) (.cons rfl .nil) (hbind s (.ref a)) e0) ?_
  rintro (e | fl) s2 h
  · exact (hX H e s2 h).elim
  · cases fl with
    | ret u =>
      obtain ⟨v, H2, os, bare, un, ok2, rv, rfl⟩ := h
      have eu : u = Value.bool true := rv
      subst eu
      have rest : ∀ b o, b ∉ cs.map (·.2) → s.heap.get? b = some o → s2.heap.get? b = some o := fun b o m e => by
        cases q : H b with
        | none => exact un.keep b o e q (by show b ∉ ([] : List Addr); simp) (by simp)
        | some y =>
          rcases begH_inv q with ⟨m2, _⟩ | ⟨_, rfl, _, rfl⟩
          · exact (m m2).elim
          · rw [ha] at e
            cases e
            exact (ok2 _ _ (un.frzs _ _ _ q)).1
      have tabs : ∀ p ∈ cs, ∃ more : Array Value, s2.heap.get? p.2 = some { cls := .none, data := .fields (#[] ++ more) } := fun p hp => (un.tbls p.2 #[] (HT p hp)).imp fun more z => ok2 p.2 (.tbl (#[] ++ more)) z
      refine ⟨rfl, ⟨fun b o e => ?_, fun b o e => ?_⟩, os, bare⟩ <;> by_cases m : b ∈ cs.map (·.2)
      · obtain ⟨p, hp, rfl⟩ := List.mem_map.mp m
        obtain ⟨more, z⟩ := tabs p hp
        rw [hT p hp] at e
        cases e
        exact .inr (.inl ⟨((hC p hp).tab (hT p hp)).isCodeTable, rfl, #[], more, rfl, z⟩)
      · exact .inl (rest b o m e)
      · obtain ⟨p, hp, rfl⟩ := List.mem_map.mp m
        exact (tabs p hp).elim fun _ z => ⟨_, z⟩
      · exact ⟨o, rest b o m e⟩
    | _ => exact False.elim h
/-- what is known of the law's promise at the head's heap h -/
def LawG (l : PySem.W.OpenLaw) (w : PySem.World) (K : PySem.W.Frag) (CX : CXT) (k n : Nat) (x : Str) (mg : Str → Option Value) (fa : Addr) (h : Heap) : Prop :=
  ∃ (cs : List (Addr × Addr)) (fd : FuncData) (sp : Sp), ((∀ p ∈ cs, h.get? p.2 = some { cls := .none, data := .fields #[] }) ∧ (∀ p ∈ cs, PySem.W.CodeHd h p.1 p.2) ∧ ∀ p ∈ cs, K.lookup p.2 = none) ∧
    (∀ base : Heap, K.In base → base.Ns mainGlobals mg → (∀ p ∈ cs, TabB base mg p.1 p.2) → FnG l.prog w K mg base CX k fa fd [x] sp) ∧ (∀ (s : Shared) (u : Value), BindsTo s fd ⟨[u], []⟩ [(x, u)]) ∧
    ∀ (H : Hp) (a : Addr) (ns : List Int), ns.length ≤ n → (∀ z ∈ ns, Builtin.Int.intBits z ≤ 1048576) → (∀ p ∈ cs, H p.2 = some (.tbl #[])) → SqL K H a (ns.map V.int) → sp [.ref a] H (fun v _ => v = .bl true) fun _ _ _ => False
end
theorem walkG {l : PySem.W.OpenLaw} {n k : Nat} {q : Program} {loose : List Str} {XP : (Str → Option Value) → Heap → Prop} {YP : PySem.World → Heap → Prop} {d : DefRec} {K : Params → PySem.W.Frag} {CX : PySem.World → CXT} {x : Str}
    (hn : l.most = some n) (hn2 : n ≤ sizeLine) (hdf : d.params.defaults = []) (hr : Room k callerA) (hY : ∀ (w : PySem.World) (h : Heap), YP w h → (K w.params).In h)
    (F : ∀ (w : PySem.World) (mg : Str → Option Value) (fa : Addr) (h : Heap), YP w h → (K w.params).In h → h.Ns mainGlobals mg → mg d.name = some (.ref fa) → LawG l w (K w.params) (CX w) k n x mg fa h)
    (hX : ∀ (w : PySem.World) (H : Hp) (s : Shared) (e : Value) (s' : Shared), CX w [] H s (fun _ _ _ => False) e s' → False) :
    PySem.W.WalkO q loose XP YP l.row.toRowW d [] (fun f vs => PySem.call f vs) :=
  Att.attach_callB hn hdf fun w s₀ s₁ mg mb fa o pm cd doc a vs ns G Y ho hd hcd hmg hobj hints hlen hbits hg => by
    obtain ⟨cs, fd, sp, ⟨h1, h2, h3⟩, hF, hb, hsp⟩ := F w mg fa _ Y (hY w _ Y) G.T.g hmg
    exact end_call (hY w _ Y) G.T.g G.T.b G.T.builtins G.T.nolimit hg h1 h3 h2 G.T.bmain hobj hints (Nat.le_trans hlen hn2) hr hF hb (fun H hH hS => hsp H a ns hlen hbits hH hS) fun H e s' => hX w H s₁ e s'
end DL

/-! objects that are made: __init__ and its caller -/
namespace DL
open L2 PySem PySem.Spec PyProof.Rows
open Evl (Ex ex_l ex_t sz_of)
def noMe : List SV → Bool
  | [] => true
  | .me _ _ _ _ :: _ => false
  | _ :: ss => noMe ss
theorem noMe_get : ∀ {ρ : List SV} {i : Nat} {x C : Addr} {ns : List Str} {ds : List D}, noMe ρ = true → ρ[i]? ≠ some (.me x C ns ds)
  | [], i, x, C, ns, ds, _ => by simp
  | s :: ss, 0, x, C, ns, ds, h => by
    intro e
    simp at e
    subst e
    exact absurd h (by simp [noMe])
  | s :: ss, i + 1, x, C, ns, ds, h => by
    have h' : noMe ss = true := by cases s <;> first | exact h | (exact absurd h (by simp [noMe]))
    simpa using noMe_get (i := i) h'
def meD (ρ : List SV) (k : Addr → Addr → List Str → List D → List SV → Prop) : Prop := match ρ with
  | .me x C ns ds :: r => k x C ns ds r
  | _ => False
def xsMe (K : PySem.W.Frag) (f : Str) (F : DT) : DTS := fun DD ρ n XP => F ρ n (fun d n1 => meD ρ fun x C ns ds r => noMe r = true ∧ Cls K C ∧ NoAttr K C f ∧ ns.length < 900 ∧ ns.contains f = false ∧ DD.nx (.me x C (ns ++ [f]) (ds ++ [d]) :: r) n1) XP
theorem putF_new {f : Str} {v : V} : ∀ {fs : List (Str × V)}, (fs.map (·.1)).contains f = false → (putF f v fs) = fs ++ [(f, v)]
  | [], _ => rfl
  | (g, y) :: fs, h => by
    have h0 : ((g :: fs.map (·.1)).contains f) = false := h
    rw [List.contains_cons, Bool.or_eq_false_iff] at h0
    have hg : ¬ g = f := fun e => by
      rw [e] at h0
      simp at h0
    show (if g = f then (g, v) :: fs else (g, y) :: putF f v fs) = _
    rw [if_neg hg, putF_new h0.2]
    rfl
section
variable {K : PySem.W.Frag} {T : Tb} {S : SA} {E : XK} {Hb H Hb1 H1 : Hp} {n n1 : Nat} {te : TE} {FE : DT} {ta : TA} {G : DTA}
/-- an object of one's own is rewritten -/
theorem World.put {p : Addr} {o u : HO} (w : World T S Hb H) (h1 : H p = some o) (h2 : Hb p = none) (nt : ∀ ps, o ≠ .tbl ps) (nx : ∀ φ, o ≠ .ext φ) (nu : ∀ ps, u ≠ .tbl ps) : World T S Hb (upd H p u) := by
  refine ⟨fun b y e => by rw [upd_ne (fun z => by rw [z, h2] at e; cases e)]; exact w.ex b y e, fun q hq => ?_, w.tb, w.sa.upd nu, w.sl.upd nu, w.sc.upd nu, w.nt⟩
  obtain ⟨ps, e, t1, t2⟩ := w.tabs q hq
  refine ⟨ps, by rw [upd_ne (fun z => by rw [z, h1] at e; exact nt _ (Option.some.inj e))]; exact e, t1, fun pos cv hcv => ?_⟩
  obtain ⟨c, e1, e2⟩ := t2 pos cv hcv
  exact ⟨c, e1, by rw [upd_ne (fun z => by rw [z, h1] at e2; exact codeO_no nx (Option.some.inj e2))]; exact e2⟩
theorem rds_fldM {f : Str} (h1 : DL.Rd K T S E te FE) : RdS K T S E (sFld K (tVar 0) te f) (xsMe K f FE) := fun σ ρ Hb0 H0 n0 Hb H n DD XP D a sl h q x => by
  refine h1 σ ρ Hb H n _ XP _ a.wd sl.sl h (fun d v n1 Hb1 H1 s hd pp => ?_) (x.step a)
  cases ρ with
  | nil => exact pp.elim
  | cons s0 r =>
    cases s0 with
    | me y C ns ds =>
      obtain ⟨nm, hc, ha, hl, hf, pp⟩ := pp
      have sl1 := sl.step s
      obtain ⟨o, e1, rfl, dx, fs, g1, g2, g3, g4, g5, g6, g7⟩ := sl1.sl.ok 0 _ rfl
      subst g6
      have f0 : Fresh H0 y := sl1.fr 0 _ y rfl rfl e1
      have ht : ∀ ps, HO.ins C dx fs ≠ .tbl ps := fun ps z => by cases z
      have hx : ∀ φ, HO.ins C dx fs ≠ .ext φ := fun ps z => by cases z
      have nu : ∀ ps, HO.ins C dx (putF f v fs) ≠ .tbl ps := fun ps z => by cases z
      have as := a.trans s
      refine ⟨.ref y, e1, y, C, dx, fs, rfl, g1, hc, ha, by rw [List.length_map] at hl; omega, ?_⟩
      have keep : ∀ {b : Addr} {o : HO}, H1 b = some o → b ≠ y → upd H1 y (.ins C dx (putF f v fs)) b = some o := fun e hb => by rw [upd_ne hb]; exact e
      refine q.nx (.me y C (fs.map (·.1) ++ [f]) (ds ++ [d]) :: r) _ n1 Hb1 _ s.ex ⟨as.ex, as.wd.put g1 g2 ht hx nu, fun h0 => ?_, fun b o e1 e2 e3 e4 e5 => ?_, fun b e => as.dm b (dm_upd nu b e)⟩ ⟨⟨sl1.sl.len, fun j t ej => ?_, fun j k p xs ys jk ej ek sj sk => ?_⟩, fun j t p ej eo sj => ?_⟩ pp
      · obtain ⟨k1, k2, ls, cs, m, t, k3, k4, k5, k6, k7, k8, rest⟩ := as.st h0
        exact ⟨k1, k2, ls, cs, m, t, k3, k4, k5, keep k6 g3.symm, keep k7 g4.symm, k8, rest⟩
      · have hb : b ≠ y := f0.ne e1 e5
        rw [upd_ne hb]
        exact as.own b o e1 e2 e3 e4 e5
      · cases j with
        | zero =>
          cases ej
          refine ⟨_, e1, rfl, dx, _, upd_same, g2, g3, g4, g5, ?_, ?_⟩
          · rw [putF_new hf]
            simp
          · rw [putF_new hf]
            simpa using g7.app (.one hd)
        | succ j =>
          have ej' : (SV.me y C (fs.map (·.1)) ds :: r)[j + 1]? = some t := ej
          have ejr : r[j]? = some t := ej
          obtain ⟨o, k1, k2⟩ := sl1.sl.ok (j + 1) t ej'
          refine ⟨o, k1, ?_⟩
          cases t with
          | no => trivial
          | d x => exact k2
          | st =>
            obtain ⟨k3, m1, m2, ls, cs, m, t, m3, m4, m5, m6, m7, m8, rest⟩ := k2
            exact ⟨k3, m1, m2, ls, cs, m, t, m3, m4, m5, keep m6 g3.symm, keep m7 g4.symm, m8, rest⟩
          | ol zs =>
            obtain ⟨p, ws, k3, k4, rest⟩ := k2
            exact ⟨p, ws, k3, keep k4 (fun z => by rw [z, g1] at k4; cases k4), rest⟩
          | me _ _ _ _ => exact absurd ejr (noMe_get nm)
          | od ks zs =>
            obtain ⟨p, kvs, k3, k4, rest⟩ := k2
            exact ⟨p, kvs, k3, keep k4 (fun z => by rw [z, g1] at k4; cases k4), rest⟩
          | ot ks zs =>
            obtain ⟨p, kvs, k3, k4, rest⟩ := k2
            exact ⟨p, kvs, k3, keep k4 (fun z => by rw [z, g1] at k4; cases k4), rest⟩
          | fv F =>
            obtain ⟨f', c', k3, k4, k5, rest⟩ := k2
            exact ⟨f', c', k3, k4, keep k5 (fun z => by rw [z, g1] at k5; exact codeO_no (o := .ins C dx fs) (fun _ z => by cases z) (Option.some.inj k5)), rest⟩
      · cases j with
        | zero => cases ej
        | succ j =>
          cases k with
          | zero => cases ek
          | succ k => exact sl1.sl.ap (j + 1) (k + 1) p xs ys jk ej ek sj sk
      · cases j with
        | zero =>
          have z : p = y := by
            rw [e1] at sj
            exact (V.ref.inj (Option.some.inj (Option.some.inj sj))).symm
          rw [z]
          exact f0
        | succ j => exact sl1.fr (j + 1) t p ej eo sj
    | _ => exact pp.elim

/-! ### __init__ -/
abbrev DSI := List SV → Nat → (List Str → List D → Nat → Prop) → DX → Prop
def spI (K : PySem.W.Frag) (T : Tb) (C : Addr) (DS : DSI) : Sp := fun vs H Q E => ∃ S Hb H1 n x dx ss us P XP, vs = .ref x :: us ∧ H = upd (upd H1 dx (.own x)) x (.ins C dx []) ∧ H1 x = none ∧ H1 dx = none ∧ dx ≠ x ∧ World T S Hb H1 ∧ Args K S Hb H1 n ss us ∧ (noOl ss = true ∧ DS ss n P XP) ∧
  (∀ ns ds dy fs n' Hb' H', Stp K T S Hb H1 n Hb' H' n' → H' x = some (.ins C dy fs) → Hb' x = none → fs.map (·.1) = ns → DnA K Hb' (fs.map (·.2)) ds → P ns ds n' → Q .non H') ∧ XOk K T S Hb H1 n XP E
theorem noL_me {ss : List SV} {x C : Addr} {ns : List Str} {ds : List D} (h : noOl ss = true) : noL (.me x C ns ds :: ss) = true := by
  have z : noL ss = true := noL_of h
  exact z
variable {P : Program} {w : PySem.World} {mg : Str → Option Value} {base : Heap}
theorem okI {x qual : Str} {st : Stmt} {f C : Addr} {fd : FuncData} {N ps : List Str} {k : Nat} {DS : DSI} (F : Fun K x qual st f fd) (Sc : FnScope N ps (defScope st)) (len : ∀ ss n P XP, DS ss n P XP → ss.length + 1 = ps.length)
    (hb : ∀ (S : SA) (cdv : Value) (A : Around) (outer : List Env) (s : Shared) (H : Hp) (E : XK), Room k (A.deeper (envOfC qual (defScope st) s.heap.objs.size f cdv)) →
      ∃ ts G, PSs (cxOf (L2.CX P w) P w K mg base N qual (defScope st) f cdv A outer s H E) (defBody st) ts ∧ RdS K T S E ts G ∧ ∀ y ss n P XP, DS ss n P XP → G { nx := fun ρ n => meD ρ fun y' C' ns ds _ => y' = y ∧ C' = C ∧ P ns ds n, rt := fun _ _ => False } (startS N (.me y C [] [] :: ss)) n XP) :
    FnOk P w K mg base (L2.CX P w) (k + 1) f fd ps (spI K T C DS) := by
  refine F.okX Sc (fun vs H Q E h => ?_) (fun cdv A outer s H vs Q E hr h => ?_)
  · obtain ⟨S, Hb, H1, n, y, dx, ss, us, P, XP, rfl, _, _, _, _, _, ha, ⟨_, hd⟩, _⟩ := h
    rw [List.length_cons, ← ha.len]
    exact len ss n P XP hd
  · obtain ⟨S, Hb, H1, n, y, dx, ss, us, P, XP, rfl, rfl, hy, hdx, ne, wd, ha, ⟨ho, hd⟩, q, x⟩ := h
    obtain ⟨ts, G, h1, h2, h3⟩ := hb S cdv A outer s _ E hr
    have s1 : Stp K T S Hb H1 n Hb (upd H1 dx (.own y)) n := .newO wd hdx
    have s2 : Stp K T S Hb H1 n Hb (upd (upd H1 dx (.own y)) y (.ins C dx [])) n := s1.trans (.newO s1.wd (by rw [upd_ne ne.symm]; exact hy))
    obtain ⟨n1, n2, n3⟩ := wd.nS (fresh_none hy)
    have hby : Hb y = none := free_of wd.ex hy
    refine ⟨ts, h1, h2 _ _ Hb H1 n Hb _ n _ XP _ s2 ⟨.start (ss := .me y C [] [] :: ss) (.cons (s := .me y C [] []) ⟨rfl, dx, [], upd_same, hby, n1, n2, n3, rfl, .nil⟩ (ha.step s2)) (noL_me ho), fun i t p ei eo sp => ?_⟩ (h3 y ss n P XP hd) ⟨fun ρ σ n' Hb' H' _ st sl p => ?_, fun _ _ _ _ _ _ _ p => p.elim, fun _ _ _ _ _ _ _ _ p => p.elim, fun _ _ _ _ _ _ _ _ p => p.elim⟩ x⟩
    · rcases start_cases ei with ei | rfl
      · cases i with
        | zero =>
          have z : p = y := by
            have z : (some (some (V.ref y)) : Option (Option V)) = some (some (.ref p)) := sp
            exact (V.ref.inj (Option.some.inj (Option.some.inj z))).symm
          rw [z]
          exact fresh_none hy
        | succ i =>
          rw [noOl_get ho ei] at eo
          cases eo
      · cases eo
    · cases ρ with
      | nil => exact p.elim
      | cons s0 r =>
        cases s0 with
        | me y' C' ns ds =>
          obtain ⟨rfl, rfl, p⟩ := p
          obtain ⟨o, e1, rfl, dy, fs, g1, g2, g3, g4, g5, g6, g7⟩ := sl.sl.ok 0 _ rfl
          exact q ns ds dy fs n' Hb' H' st g1 g2 g6 g7 p
        | _ => exact p.elim

/-! ### the caller -/
def xMake (K : PySem.W.Frag) (C : Addr) (DS : DSI) (G : DTA) : DT := fun ρ n P XP => G ρ n (fun ss n1 => InC K C ∧ noOl ss = true ∧ DS ss n1 (fun ns ds n2 => P (.ins C ns ds) n2) XP) XP
theorem made {C : Addr} {P : DQ} {Q : VK} {x dy : Addr} {fs : List (Str × V)} {ns : List Str} {ds : List D} (s : Stp K T S Hb H n Hb1 H1 n1) (ic : InC K C) (q : VOk K T S Hb H n P Q) (hx : H x = none) (e1 : H1 x = some (.ins C dy fs)) (e2 : Hb1 x = none) (e3 : fs.map (·.1) = ns) (e4 : DnA K Hb1 (fs.map (·.2)) ds) (w : World T S Hb H) (pp : P (.ins C ns ds) n1) : Q (.ref x) H1 := by
  obtain ⟨m1, m2, m3⟩ := w.nS (fresh_none hx)
  have z := s.freeze (o := .ins C dy fs) (fresh_none hx) e2 (by rw [e1]; exact fun z => by cases z) (fun ps z => by rw [e1] at z; cases z) (fun c u z => by rw [e1] at z; exact codeO_no (o := .ins C dy fs) (fun _ z => by cases z) (Option.some.inj z)) m1 m2 m3
  have e : upd H1 x (.ins C dy fs) = H1 := by
    funext b
    by_cases hb : b = x
    · rw [hb, upd_same, e1]
    · rw [upd_ne hb]
  rw [e] at z
  exact q _ _ n1 _ _ z (.ins ic upd_same e3 (e4.up (Ex.new e2))) pp
theorem rd_make {C : Addr} {DS : DSI} (h : RdA K T S E ta G) : DL.Rd K T S E (tMake C (spI K T C DS) [] E ta) (xMake K C DS G) := fun σ ρ Hb H n P XP Q w sl hf q x =>
  h σ ρ Hb H n _ XP _ w sl hf (fun ss vs n1 Hb1 H1 s ha p y dx hy hdx ne => by
    obtain ⟨ic, ho, hd⟩ := p
    exact ⟨S, Hb1, H1, n1, y, dx, ss, vs, _, XP, by rw [List.append_nil], rfl, hy, hdx, ne, s.wd, ha, ⟨ho, hd⟩, fun ns ds dy fs n' Hb' H' s2 e1 e2 e3 e4 pp => ⟨rfl, made s2 ic (q.step s) hy e1 e2 e3 e4 s.wd pp⟩, x.step s⟩) x
end
end DL

/-! a def that makes lambdas; work() caught -/
namespace DL
open L2 PySem PySem.Spec PyProof.Rows
open Evl (Ex ex_l ex_t sz_of)
/-- a def with its code object at c -/
structure FunC (K : PySem.W.Frag) (x qual : Str) (st : Stmt) (f : Addr) (fd : FuncData) (c : Addr) : Prop where
  ex : ∃ (oc : Value) (od : Option Addr) (kV doc pm : Value) (an : Option Addr) (ct : Value) (osl : Array (Option Value)),
    fd = PySem.W.fnOf x qual (defArgs st) (defBody st) (defScope st) .none kV doc pm an (.ref c) ct ∧ K.lookup f = some ⟨oc, od, .func fd, osl⟩ ∧ PySem.W.codeIn K (.ref c) qual = true
section
variable {P : Program} {w : PySem.World} {K : PySem.W.Frag} {T : Tb} {mg : Str → Option Value} {base : Heap}
theorem fnC_okD {x qual : Str} {st : Stmt} {f c : Addr} {fd : FuncData} {N ps : List Str} {k : Nat} {DS : DSp0} (F : FunC K x qual st f fd c) (Sc : FnScope N ps (defScope st)) (len : ∀ ss n P, DS ss n P → ss.length = ps.length)
    (hb : ∀ (S : SA) (A : Around) (outer : List Env) (s : Shared) (H : Hp) (E : XK), A.guards = some [] → Room k (A.deeper (envOfC qual (defScope st) s.heap.objs.size f (.ref c))) →
      ∃ ts G, PSs (cxOf CX0 P w K mg base N qual (defScope st) f (.ref c) A outer s H E).nox (defBody st) ts ∧ RdS K T S E0 ts G ∧ ∀ ss n P, DS ss n P → G { nx := fun _ n => P .non n, rt := P } (startS N ss) n xF) :
    FnG P w K mg base CX0 (k + 1) f fd ps (sp0 K T DS) := by
  obtain ⟨oc, od, kV, doc, pm, an, ct, osl, rfl, lk, hcd⟩ := F.ex
  have hl : ∀ vs H Q E, sp0 K T DS vs H Q E → vs.length = ps.length := fun vs H Q E h => by
    obtain ⟨S, Hb, n, ss, P, XP, _, ha, ⟨_, hd⟩, _⟩ := h
    rw [← ha.len]
    exact len ss n P hd
  refine ⟨hl, fun A g hr out s H args us vs Q E h r b e => LamX.run_ofS lk hcd Sc hr e b r (hl _ _ _ _ h) fun hr2 => ?_⟩
  obtain ⟨S, Hb, n, ss, P, XP, wd, ha, ⟨ho, hd⟩, q, _⟩ := h
  obtain ⟨ts, G, h1, h2, h3⟩ := hb S A out s H E g hr2
  exact ⟨ts, h1.nox, h2 _ _ Hb H n Hb H n _ xF _ (.refl wd) ⟨.start ha (noL_of ho), start_fr ho⟩ (h3 ss n P hd) ⟨fun ρ σ n' Hb' H' _ st _ p => q _ _ _ _ _ st .non p, q, fun _ _ _ _ _ _ _ _ p => p.elim, fun _ _ _ _ _ _ _ _ p => p.elim⟩ .none⟩
/-- what the frame that makes a lambda must know: its own code object and the table there -/
structure MakesAt (base : Heap) (mg : Str → Option Value) (T : Tb) (q : Str) (c : Addr) : Prop where
  ex : ∃ P, LamX.TabB base mg c P ∧ (P, q) ∈ T ∧ ∀ p ∈ T, p.1 = P → p.2 = q
end
section
variable {X : Cx} {T : Tb}
/-- _law_caught(lambda: body) -/
theorem lam_call {st : Stmt} {CS c : Addr} {k : Nat} {params : Arguments} {body : Expr} {scope : Scope} {t : XK → TE} {p lpos pos : Pos} (D : DefAt X.K X.mg "_law_caught" st ["work"]) (Sg : FnScope ["work", "caught", "error"] ["work"] (defScope st))
    (hG : ∀ g cdg, LamX.GivesTo X ["work", "caught", "error"] "_law_caught" (defScope st) g cdg (defBody st) "work" (X.env.qual ++ "<lambda>") (TTc X.K CS))
    (M : MakesAt X.base X.mg T (X.env.qual ++ "<lambda>") c) (hcode : X.env.code = .ref c) (hr : Room (k + 2) X.A) (L : LamX.LamS X.env.scope scope) (hg : Gl X "_law_caught") (hdef : defaultsOf params X.env = ([], []))
    (hbind : ∀ (q : Str) (cl : List (Str × Addr)) (pm cv ctv : Value), bindArgs (PySem.W.kla_fn "<lambda>" q params body scope cl pm cv ctv) ⟨[], []⟩ = pure [])
    (hbody : ∀ (A : Around) (outer : List Env) (s : Shared) (H : Hp) (E : XK) (f c' : Addr), Room k (A.deeper (LamX.lamEnv X scope s.heap.objs.size f c')) → PE (LamX.lamCx X A outer s H E scope f c') body (t E)) :
    PE X (.Call (.Name "_law_caught" p) [.Lambda params body scope lpos] [] pos) (LamX.tLam T (TTc X.K CS) t) := by
  obtain ⟨g, fd, F, hm, hk, hb⟩ := D
  obtain ⟨oc, od, kV, doc, pm, an, cdv, ct, osl, rfl, lk, hcd⟩ := F.ex
  obtain ⟨P, TB, hmT, hu⟩ := M.ex
  exact LamX.pe_lamcall (Ng := ["work", "caught", "error"]) hg hm hk lk hcd hb Sg rfl (Sg.par "work" (by simp) |>.elim (fun q => .inl q) fun q => .inr (.inl q)) (hG g cdv) TB hcode hmT hu hr L hdef hbind hbody
end
end DL

/-! how defs and classes stand, in short; keywords of a class -/
namespace DL
open L2 PySem PySem.Spec PyProof.Rows
open Evl (Ex ex_l ex_t sz_of)
def gsw {α : Type} : List α → List α → List α
  | [s], [a, b] => [s, b, a]
  | us, ws => us ++ ws
theorem gsw_rel {vs : List V} {us : List Value} {zs : List V} {ws : List Value} (h : Vals vs us) (g : Vals zs ws) : Vals (gsw vs zs) (gsw us ws) := by
  have d : Vals (vs ++ zs) (us ++ ws) := h.append g
  cases h with
  | nil => simpa [gsw] using d
  | cons a ra =>
    cases ra with
    | cons b rb => simpa [gsw] using d
    | nil =>
      cases g with
      | nil => simpa [gsw] using d
      | cons b rb =>
        cases rb with
        | nil => simpa [gsw] using d
        | cons c rc =>
          cases rc with
          | nil => exact .cons a (.cons c (.cons b .nil))
          | cons e re => simpa [gsw] using d
/-- a class whose __init__ takes two values -/
def Init2 (K : PySem.W.Frag) (qual : Str) (C : Addr) (st : Stmt) (a b : Str) : Prop :=
  ∃ f fd, Fun K "__init__" qual st f fd ∧ Mk K C f ∧ Binds K fd ["self", a, b] [] ∧ KBn K fd ["self", a, b] 1 [b, a] gsw gsw
def HasI (P : Program) (w : PySem.World) (K : PySem.W.Frag) (mg : Str → Option Value) (base : Heap) (k : Nat) (C : Addr) (a b : Str) (sp : Sp) : Prop :=
  ∃ f fd, FnOk P w K mg base (L2.CX P w) k f fd ["self", a, b] sp ∧ Mk K C f ∧ Binds K fd ["self", a, b] [] ∧ KBn K fd ["self", a, b] 1 [b, a] gsw gsw
def HasG (P : Program) (w : PySem.World) (K : PySem.W.Frag) (mg : Str → Option Value) (base : Heap) (CX : CXT) (k : Nat) (name : Str) (ps : List Str) (sp : Sp) : Prop :=
  ∃ f fd, FnG P w K mg base CX k f fd ps sp ∧ mg name = some (.ref f) ∧ PySem.W.keepIn K (.ref f) = true ∧ Binds K fd ps []
def DefC (K : PySem.W.Frag) (mg : Str → Option Value) (name : Str) (st : Stmt) (ps : List Str) (c : Addr) : Prop :=
  ∃ f fd, FunC K name name st f fd c ∧ mg name = some (.ref f) ∧ PySem.W.keepIn K (.ref f) = true ∧ Binds K fd ps []
section
variable {K : PySem.W.Frag} {T : Tb} {S : SA} {E : XK} {ta : TA} {G : DTA}
def xMakeS (K : PySem.W.Frag) (C : Addr) (DS : DSI) (G : DTA) : DT := fun ρ n P XP => G ρ n (fun ss n1 => InC K C ∧ match ss with | [a, b] => noOl [b, a] = true ∧ DS [b, a] n1 (fun ns ds n2 => P (.ins C ns ds) n2) XP | _ => False) XP
theorem rd_makeS {C : Addr} {DS : DSI} (h : RdA K T S E ta G) : DL.Rd K T S E (tMakeK C 0 2 (spI K T C DS) gsw E tNil ta) (xMakeS K C DS G) := fun σ ρ Hb H n P XP Q w sl hf q x =>
  h σ ρ Hb H n _ XP _ w sl hf (fun ss vs n1 Hb1 H1 s ha p => by
    obtain ⟨ic, p⟩ := p
    match ss, ha, p with
    | [a, b], .cons h1 (.cons h2 .nil), ⟨ho, hd⟩ =>
      refine ⟨rfl, rfl, fun y dx hy hdx ne => ?_⟩
      exact ⟨S, Hb1, H1, n1, y, dx, [b, a], _, _, XP, rfl, rfl, hy, hdx, ne, s.wd, .cons h2 (.cons h1 .nil), ⟨ho, hd⟩, fun ns ds dy fs n' Hb' H' s2 e1 e2 e3 e4 pp => ⟨rfl, made s2 ic (q.step s) hy e1 e2 e3 e4 s.wd pp⟩, x.step s⟩) x
end
end DL

/-! the source of draws is made; a law's own def -/
namespace DL
open L2 PySem PySem.Spec PyProof.Rows
open Evl (Ex ex_l ex_t sz_of)
def stBegun (l c : Addr) : List (Key × V) := [(kLarge, .ref l), (kCells, .ref c), (kLeft, .int 0), (kTurn, .int 0)]
/-- _law_begun(script) -/
def spBegun (K : PySem.W.Frag) : Sp := fun vs H Q _ => ∃ (a : Addr) (ns : List Int), vs = [.ref a] ∧ SqL K H a (ns.map V.int) ∧ ns.length ≤ 63 ∧
  ∀ (c l d : Addr) (cs ls : List Int) (H' : Hp), H c = none → H l = none → H d = none → c ≠ l → c ≠ d → l ≠ d → H' c = some (.lst (cs.map V.int)) → H' l = some (.lst (ls.map V.int)) → H' d = some (.dK (stBegun l c)) →
    (∀ b, b ≠ c → b ≠ l → b ≠ d → H' b = H b) → (∀ x ∈ cs, 0 ≤ x) → (∀ x ∈ ls, 0 ≤ x) → cs.length ≤ 63 → ls.length ≤ 63 → Q (.ref d) H'
section
variable {K : PySem.W.Frag} {T : Tb} {H H' : Hp} {a c l d : Addr} {ns cs ls : List Int}
theorem world_from {Hb : Hp} (tabs : LamX.Tabs T H) (hc : H c = none) (hl : H l = none) (hd : H d = none) (cl : c ≠ l) (cd : c ≠ d) (ld : l ≠ d) (e1 : H' c = some (.lst (cs.map V.int))) (e2 : H' l = some (.lst (ls.map V.int))) (e3 : H' d = some (.dK (stBegun l c)))
    (keep : ∀ b, b ≠ c → b ≠ l → b ≠ d → H' b = H b) (p1 : ∀ x ∈ cs, 0 ≤ x) (p2 : ∀ x ∈ ls, 0 ≤ x) (l1 : cs.length ≤ 63) (l2 : ls.length ≤ 63) (eb : Ex Hb H) (nt : ∀ b ps, Hb b ≠ some (.tbl ps)) :
    World T ⟨d, l, c, cs⟩ (upd Hb c (.lst (cs.map V.int))) H' ∧ StOk K ⟨d, l, c, cs⟩ (upd Hb c (.lst (cs.map V.int))) H' 0 := by
  have kp : ∀ {b : Addr} {o : HO}, H b = some o → H' b = some o := fun {b o} e => by
    rw [keep b (ne_of_none e hc) (ne_of_none e hl) (ne_of_none e hd)]
    exact e
  have fb : ∀ {b : Addr}, H b = none → Hb b = none := fun h => Evl.fresh_back eb h
  refine ⟨⟨fun b o e => ?_, fun p hp => (tabs p hp).ext fun b o e => kp e, fun p hp => ?_, ⟨_, e3, (fun _ z => by cases z)⟩, ⟨_, e2, (fun _ z => by cases z)⟩, ⟨_, e1, (fun _ z => by cases z)⟩, fun b ps z => ?_⟩, ?_⟩
  · by_cases hb : b = c
    · rw [hb, upd_same] at e
      rw [hb, e1]
      exact e
    · rw [upd_ne hb] at e
      exact kp (eb b o e)
  · obtain ⟨ps, e, _⟩ := tabs p hp
    rw [upd_ne (ne_of_none e hc)]
    cases h : Hb p.1 with
    | none => rfl
    | some o =>
      have z := eb _ _ h
      rw [e] at z
      cases z
      exact (nt _ _ h).elim
  · by_cases hb : b = c
    · rw [hb, upd_same] at z
      cases z
    · rw [upd_ne hb] at z
      exact nt b ps z
  · refine ⟨by rw [upd_ne cd.symm]; exact fb hd, by rw [upd_ne cl.symm]; exact fb hl, ls, cs, 0, 0, cl, cd, ld.symm, e3, e2, upd_same, p2, p1, Int.le_refl _, Nat.le_refl _, l2, l1, rfl⟩
theorem begun_world (tabs : LamX.Tabs T H) (hS : SqL K H a (ns.map V.int)) (hc : H c = none) (hl : H l = none) (hd : H d = none) (cl : c ≠ l) (cd : c ≠ d) (ld : l ≠ d) (e1 : H' c = some (.lst (cs.map V.int))) (e2 : H' l = some (.lst (ls.map V.int))) (e3 : H' d = some (.dK (stBegun l c)))
    (keep : ∀ b, b ≠ c → b ≠ l → b ≠ d → H' b = H b) (p1 : ∀ x ∈ cs, 0 ≤ x) (p2 : ∀ x ∈ ls, 0 ≤ x) (l1 : cs.length ≤ 63) (l2 : ls.length ≤ 63) :
    ∃ Hb, World T ⟨d, l, c, cs⟩ Hb H' ∧ StOk K ⟨d, l, c, cs⟩ Hb H' 0 ∧ SqL K Hb a (ns.map V.int) := by
  rcases hS with hR | hK
  · have hH : ∃ o, H a = some o ∧ (∀ ps, o ≠ .tbl ps) ∧ ∀ Hb : Hp, Hb a = some o → L2.Rd Hb a (.lst (ns.map V.int)) := by
      rcases hR with h | ⟨o, h⟩
      · exact ⟨_, h, (fun _ z => by cases z), fun Hb e => .inl e⟩
      · exact ⟨_, h, (fun _ z => by cases z), fun Hb e => .inr ⟨o, e⟩⟩
    obtain ⟨o, h, ho, rd⟩ := hH
    have eb : Ex (upd (fun _ => none) a o) H := fun b u e => by
      by_cases hb : b = a
      · rw [hb, upd_same] at e
        rw [hb, h]
        exact e
      · rw [upd_ne hb] at e
        cases e
    obtain ⟨g1, g2⟩ := world_from (K := K) tabs hc hl hd cl cd ld e1 e2 e3 keep p1 p2 l1 l2 eb (nt_upd (fun _ _ z => by cases z) ho)
    exact ⟨_, g1, g2, .inl (rd _ (by rw [upd_ne (ne_of_none h hc)]; exact upd_same))⟩
  · obtain ⟨g1, g2⟩ := world_from (Hb := fun _ => none) (K := K) tabs hc hl hd cl cd ld e1 e2 e3 keep p1 p2 l1 l2 (fun _ _ e => by cases e) (fun _ _ z => by cases z)
    exact ⟨_, g1, g2, .inr hK⟩
/-- the source of draws is stored -/
theorem Slots.setSt {S : SA} {Hb : Hp} {n : Nat} {ρ : List SV} {σ : L2.St} {i : Nat} (sl : Slots K S Hb H n ρ σ) (h : StOk K S Hb H n) : Slots K S Hb H n (ρ.set i .st) (σ.set i (some (.ref S.a))) where
  len := by rw [List.length_set, List.length_set]; exact sl.len
  ok := fun j s e => by
    by_cases hj : i = j
    · subst hj
      have hl : i < ρ.length := by
        have := (List.getElem?_eq_some_iff.mp e).1
        rwa [List.length_set] at this
      rw [List.getElem?_set_self hl] at e
      cases e
      exact ⟨_, List.getElem?_set_self (by rw [← sl.len]; exact hl), rfl, h⟩
    · rw [List.getElem?_set_ne hj] at e
      obtain ⟨o, e1, e2⟩ := sl.ok j s e
      exact ⟨o, by rw [List.getElem?_set_ne hj]; exact e1, e2⟩
  ap := fun j k q ys zs hjk ej ek sj sk => by
    have f : ∀ {m : Nat} {u : List D}, (ρ.set i .st)[m]? = some (.ol u) → i ≠ m ∧ ρ[m]? = some (.ol u) := fun {m u} e => by
      by_cases hm : i = m
      · subst hm
        have hl : i < ρ.length := by
          have := (List.getElem?_eq_some_iff.mp e).1
          rwa [List.length_set] at this
        rw [List.getElem?_set_self hl] at e
        cases e
      · rw [List.getElem?_set_ne hm] at e
        exact ⟨hm, e⟩
    obtain ⟨h1, e1⟩ := f ej
    obtain ⟨h2, e2⟩ := f ek
    rw [List.getElem?_set_ne h1] at sj
    rw [List.getElem?_set_ne h2] at sk
    exact sl.ap j k q ys zs hjk e1 e2 sj sk
/-- a, b = e, where a frame's cell is among them -/
def xsAsgG (F : DT) (G : DTG) : DTS := fun DD ρ n XP => F ρ n (fun d n1 => G d ρ fun ρ2 => DD.nx ρ2 n1) XP
theorem rds_asgG {S : SA} {E : XK} {vs : List Nat} {g : TG} {G : DTG} {te : TE} {FE : DT} (h1 : DL.Rd K T S E te FE) (hg : RdG K T S vs g G) : RdS K T S E (tAsg te g) (xsAsgG FE G) := fun σ ρ Hb0 H0 n0 Hb H n DD XP D a sl h q x =>
  h1 σ ρ Hb H n _ XP _ a.wd sl.sl h (fun d v n1 Hb1 H1 s hd pp => hg v d σ ρ H0 Hb1 H1 n1 _ _ s.wd (sl.step s) hd pp fun ρ' σ' sl' _ p => q.nx _ _ n1 Hb1 H1 s.ex (a.trans s) sl' p) (x.step a)
/-- a law's promise: True at every script -/
def spLaw (K : PySem.W.Frag) (T : Tb) : Sp := fun vs H Q _ => ∃ (a : Addr) (ns : List Int), vs = [.ref a] ∧ SqL K H a (ns.map V.int) ∧ ns.length ≤ 63 ∧ LamX.Tabs T H ∧ ∀ H', Q (.bl true) H'
/-- state = _law_begun(script), then the rest on data -/
theorem law_body {N : List Str} {E9 : XK} {ts : TS} {Q : VK} (hN : 2 ≤ N.length) (hS : SqL K H a (ns.map V.int)) (hl : ns.length ≤ 63) (tabs : LamX.Tabs T H) (q : ∀ H', Q (.bl true) H')
    (rest : ∀ S : SA, ∃ G, RdS K T S E0 ts G ∧ G { nx := fun _ _ => False, rt := fun d _ => d = .bl true } ((startS N [.d (.lst (ns.map D.int))]).set 1 .st) 0 xF) :
    tSeq (tAsg (tCall (spBegun K) [] E9 (tCons (tVar 0) tNil)) (gName 1)) ts { nx := fun _ H' => Q .non H', rt := Q } (L2.start N [.ref a]) H := by
  refine ⟨.ref a, rfl, a, ns, rfl, hS, hl, fun c l d cs ls H' hc hl' hd cl cd ld e1 e2 e3 keep p1 p2 l1 l2 => ?_⟩
  obtain ⟨Hb, w, st, hS'⟩ := begun_world (T := T) tabs hS hc hl' hd cl cd ld e1 e2 e3 keep p1 p2 l1 l2
  obtain ⟨G, hG, g⟩ := rest ⟨d, l, c, cs⟩
  have sl0 : Slots K ⟨d, l, c, cs⟩ Hb H' 0 (startS N [.d (.lst (ns.map D.int))]) (L2.start N [.ref a]) := .start (.cons ⟨_, rfl, .lst hS' (DnA.ints ns)⟩ .nil) rfl
  refine hG _ _ Hb H' 0 Hb H' 0 _ xF _ (.refl w) ⟨sl0.setSt (i := 1) st, fun i s p ei eo _ => ?_⟩ g ⟨fun _ _ _ _ _ _ _ _ p => p.elim, fun dd v n' Hb' H2 _ hv e => ?_, fun _ _ _ _ _ _ _ _ p => p.elim, fun _ _ _ _ _ _ _ _ p => p.elim⟩ .none
  · by_cases hi : 1 = i
    · subst hi
      have h1 : 1 < (startS N [.d (.lst (ns.map D.int))]).length := by
        have := (List.getElem?_eq_some_iff.mp ei).1
        rwa [List.length_set] at this
      rw [List.getElem?_set_self h1] at ei
      cases ei
      cases eo
    · rw [List.getElem?_set_ne hi] at ei
      rcases start_cases ei with h | rfl
      · rw [noOl_get (ss := [.d (.lst (ns.map D.int))]) rfl h] at eo
        cases eo
      · cases eo
  · subst e
    cases hv
    exact q H2
end
end DL

/-! list(zip(a, b)) of two tuples -/
namespace RZ
open PySem PySem.Calls PyProof.Rows PyProof.V PySem.Spec PySem.W
theorem zl_no_len : typeLookup (.type "zip") "__len__" = pure none := by rw [typeLookup_type, builtinLookup_eq_fast]; kernel_rfl
theorem zl_no_hint : typeLookup (.type "zip") "__length_hint__" = pure none := by rw [typeLookup_type, builtinLookup_eq_fast]; kernel_rfl
section
variable {prog : Program} {w : World} {A : Around} {E : Value → Shared → Prop} {s : Shared}
theorem zipT_next_item_held {z TI TO T i1 i2 l1 l2 : Addr} {f : Bool} {oT : Obj} {k1 k2 : Nat} {xs ys : Array Value} {x y : Value} {Q : Value → Shared → Prop} (D : ZipApart z TI TO i1 i2 l1 l2)
    (hz : IsZipHeld s.heap z TI TO T f) (hT : s.heap.get? T = some oT) (hTI : IsPair s.heap TI (.ref i1) (.ref i2))
    (h1 : s.heap.IsTupleIter i1 l1 k1) (h2 : s.heap.IsTupleIter i2 l2 k2) (hl1 : s.heap.IsTuple l1 xs) (hl2 : s.heap.IsTuple l2 ys) (hx : xs[k1]? = some x) (hy : ys[k2]? = some y)
    (hQ : ∀ h', IsZipHeld h' z TI TO T true → h'.IsTupleIter i1 l1 (k1 + 1) → h'.IsTupleIter i2 l2 (k2 + 1) → IsPair h' s.heap.objs.size x y → h'.objs.size = s.heap.objs.size + 1 →
      (∀ c o, c ≠ z → c ≠ i1 → c ≠ i2 → s.heap.get? c = some o → h'.get? c = some o) → Q (.ref s.heap.objs.size) { s with heap := h' }) :
    wpAny (model prog w) A (Builtin.«zip.__next__» ⟨[.ref z], []⟩) (fun fin s' => ∃ v, fin = .done (.ret v) ∧ Q v s') E s := by
  show wpAny _ _ (field (.ref z) 2 >>= _) _ _ _
  refine wpAny_bind (wpAny_field hz rfl (x := .bool false) rfl ?_)
  show wpAny _ _ (field (.ref z) 3 >>= _) _ _ _
  refine wpAny_bind (wpAny_field hz rfl (x := .ref TI) rfl ?_)
  refine wpAny_bind (wpAny_seqItems hTI rfl ?_)
  show wpAny _ _ (Builtin.SmallTypes.ownedTupleIsFree (.ref z) >>= _) _ _ _
  refine wpAny_bind (wpAny_tupleHeld_zip hz hT fun h₁ hz₁ hs₁ => ?_)
  simp only [Bool.false_eq_true, if_false]
  refine wpAny_bind ?_
  rw [← Array.forIn_toList]
  simp only [List.forIn_cons, List.forIn_nil]
  refine wpAny_bind (wpAny_bind (wpAny_holding ?_))
  show wpAny _ _ (Builtin.SmallTypes.nextOf (.ref i1) >>= _) _ _ _
  refine wpAny_bind (nextOf_tuple_item (s := { s with heap := h₁ }) (h1.extBut hs₁.extBut D.i1z) (hl1.extBut hs₁.extBut D.l1z) hx fun h₂ h1₂ hs₂ => wpAny_pure ?_)
  refine wpAny_pure ?_
  refine wpAny_bind (wpAny_bind (wpAny_holding ?_))
  show wpAny _ _ (Builtin.SmallTypes.nextOf (.ref i2) >>= _) _ _ _
  refine wpAny_bind (nextOf_tuple_item (s := { s with heap := h₂ }) ((h2.extBut hs₁.extBut D.i2z).extBut hs₂.extBut D.i12.symm) ((hl2.extBut hs₁.extBut D.l2z).extBut hs₂.extBut D.l2i1) hy fun h₃ h2₃ hs₃ => wpAny_pure ?_)
  refine wpAny_pure (wpAny_pure ?_)
  show wpAny _ _ (newTuple [x, y] >>= _) _ _ _
  refine wpAny_bind (wpAny_newTuple ?_)
  have hsz : h₃.objs.size = s.heap.objs.size := by rw [hs₃.1, hs₂.1, hs₁.1]
  have hz₃ : IsZipHeld h₃ z TI TO T true := hs₃.extBut _ _ D.i2z.symm (hs₂.extBut _ _ D.i1z.symm hz₁)
  have hk : ∀ c o, c ≠ z → c ≠ i1 → c ≠ i2 → s.heap.get? c = some o → h₃.get? c = some o := fun c o c1 c2 c3 e => hs₃.extBut _ _ c3 (hs₂.extBut _ _ c2 (hs₁.extBut _ _ c1 e))
  have h1₃ : h₃.IsTupleIter i1 l1 (k1 + 1) := h1₂.extBut hs₃.extBut D.i12
  refine wpAny_pure ⟨_, rfl, ?_⟩
  show Q (.ref h₃.objs.size) _
  have hp : IsPair (h₃.push { cls := .type "tuple", data := .seq #[x, y] }) h₃.objs.size x y := Heap.get?_push_size _ rfl
  have hz4 : (h₃.push { cls := .type "tuple", data := .seq #[x, y] }).objs.size = h₃.objs.size + 1 := Heap.size_push ..
  rw [hsz] at hp hz4 ⊢
  exact hQ _ (Heap.get?_push_of_some _ hz₃) (h1₃.at fun o e => Heap.get?_push_of_some _ e) (h2₃.at fun o e => Heap.get?_push_of_some _ e) hp hz4 fun c o c1 c2 c3 e => Heap.get?_push_of_some _ (hk c o c1 c2 c3 e)
theorem zipT_next_end_held {z TI TO T i1 i2 l1 l2 : Addr} {f : Bool} {oT : Obj} {k1 k2 : Nat} {xs ys : Array Value} {Q : Fin → Shared → Prop} (hh : A.handled = none) (D : ZipApart z TI TO i1 i2 l1 l2)
    (hz : IsZipHeld s.heap z TI TO T f) (hT : s.heap.get? T = some oT) (hTI : IsPair s.heap TI (.ref i1) (.ref i2))
    (h1 : s.heap.IsTupleIter i1 l1 k1) (h2 : s.heap.IsTupleIter i2 l2 k2) (hl1 : s.heap.IsTuple l1 xs) (hl2 : s.heap.IsTuple l2 ys) (hend : xs[k1]? = none ∨ ys[k2]? = none)
    (hE : ∀ h' e, (∀ c o, c ≠ z → c ≠ i1 → c ≠ i2 → s.heap.get? c = some o → h'.get? c = some o) → (∃ o, h'.get? e = some o ∧ o.cls = .type "StopIteration") → E (.ref e) { s with heap := h' }) :
    wpAny (model prog w) A (Builtin.«zip.__next__» ⟨[.ref z], []⟩) Q E s := by
  show wpAny _ _ (field (.ref z) 2 >>= _) _ _ _
  refine wpAny_bind (wpAny_field hz rfl (x := .bool false) rfl ?_)
  show wpAny _ _ (field (.ref z) 3 >>= _) _ _ _
  refine wpAny_bind (wpAny_field hz rfl (x := .ref TI) rfl ?_)
  refine wpAny_bind (wpAny_seqItems hTI rfl ?_)
  show wpAny _ _ (Builtin.SmallTypes.ownedTupleIsFree (.ref z) >>= _) _ _ _
  refine wpAny_bind (wpAny_tupleHeld_zip hz hT fun h₁ hz₁ hs₁ => ?_)
  simp only [Bool.false_eq_true, if_false]
  refine wpAny_bind ?_
  rw [← Array.forIn_toList]
  simp only [List.forIn_cons, List.forIn_nil]
  refine wpAny_bind (wpAny_bind (wpAny_holding ?_))
  show wpAny _ _ (Builtin.SmallTypes.nextOf (.ref i1) >>= _) _ _ _
  cases hx : xs[k1]? with
  | none =>
    refine wpAny_bind (nextOf_tuple_end (s := { s with heap := h₁ }) hh (h1.extBut hs₁.extBut D.i1z) (hl1.extBut hs₁.extBut D.l1z) hx fun h₂ e hs₂ he => ?_)
    exact hE h₂ e (fun c o c1 c2 _ x => hs₂ _ _ c2 (hs₁.extBut _ _ c1 x)) he
  | some x =>
    have hy : ys[k2]? = none := by rcases hend with h | h; rw [hx] at h; cases h; exact h
    refine wpAny_bind (nextOf_tuple_item (s := { s with heap := h₁ }) (h1.extBut hs₁.extBut D.i1z) (hl1.extBut hs₁.extBut D.l1z) hx fun h₂ h1₂ hs₂ => wpAny_pure ?_)
    refine wpAny_pure ?_
    refine wpAny_bind (wpAny_bind (wpAny_holding ?_))
    show wpAny _ _ (Builtin.SmallTypes.nextOf (.ref i2) >>= _) _ _ _
    refine wpAny_bind (nextOf_tuple_end (s := { s with heap := h₂ }) hh ((h2.extBut hs₁.extBut D.i2z).extBut hs₂.extBut D.i12.symm) ((hl2.extBut hs₁.extBut D.l2z).extBut hs₂.extBut D.l2i1) hy fun h₃ e hs₃ he => ?_)
    exact hE h₃ e (fun c o c1 c2 c3 x => hs₃ _ _ c3 (hs₂.extBut _ _ c2 (hs₁.extBut _ _ c1 x))) he
theorem pyNext_zipT_item_held {z TI TO T i1 i2 l1 l2 : Addr} {f : Bool} {oT : Obj} {k1 k2 : Nat} {xs ys : Array Value} {x y : Value} {Q : Option Value → Shared → Prop} (D : ZipApart z TI TO i1 i2 l1 l2)
    (hz : IsZipHeld s.heap z TI TO T f) (hT : s.heap.get? T = some oT) (hTI : IsPair s.heap TI (.ref i1) (.ref i2))
    (h1 : s.heap.IsTupleIter i1 l1 k1) (h2 : s.heap.IsTupleIter i2 l2 k2) (hl1 : s.heap.IsTuple l1 xs) (hl2 : s.heap.IsTuple l2 ys) (hx : xs[k1]? = some x) (hy : ys[k2]? = some y)
    (hQ : ∀ h', IsZipHeld h' z TI TO T true → h'.IsTupleIter i1 l1 (k1 + 1) → h'.IsTupleIter i2 l2 (k2 + 1) → IsPair h' s.heap.objs.size x y → h'.objs.size = s.heap.objs.size + 1 →
      (∀ c o, c ≠ z → c ≠ i1 → c ≠ i2 → s.heap.get? c = some o → h'.get? c = some o) → Q (some (.ref s.heap.objs.size)) { s with heap := h' }) :
    wpAny (model prog w) A (pyNext (.ref z)) Q E s := by
  have hTy : s.TypeIs (.ref z) "zip" := ⟨_, hz, rfl⟩
  unfold pyNext
  exact wpAny_bind (wpAny_attempt (wpAny_callSpecial?_slot (name := Str.ofString "__next__") hTy F.slot_zip_next
    (wpAny_call_entry F.slot_zip_next hTy F.entry_zip_next
      (zipT_next_item_held D hz hT hTI h1 h2 hl1 hl2 hx hy fun h' a1 a3 a4 a5 a6 a7 => wpAny_pure (hQ h' a1 a3 a4 a5 a6 a7)) (F.args_zip_next_1 _))))
theorem pyNext_zipT_end_held {z TI TO T i1 i2 l1 l2 : Addr} {f : Bool} {oT : Obj} {k1 k2 : Nat} {xs ys : Array Value} {Q : Option Value → Shared → Prop} (hh : A.handled = none) (D : ZipApart z TI TO i1 i2 l1 l2)
    (hz : IsZipHeld s.heap z TI TO T f) (hT : s.heap.get? T = some oT) (hTI : IsPair s.heap TI (.ref i1) (.ref i2))
    (h1 : s.heap.IsTupleIter i1 l1 k1) (h2 : s.heap.IsTupleIter i2 l2 k2) (hl1 : s.heap.IsTuple l1 xs) (hl2 : s.heap.IsTuple l2 ys) (hend : xs[k1]? = none ∨ ys[k2]? = none)
    (hQ : ∀ h', (∀ c o, c ≠ z → c ≠ i1 → c ≠ i2 → s.heap.get? c = some o → h'.get? c = some o) → Q none { s with heap := h' }) : wpAny (model prog w) A (pyNext (.ref z)) Q E s := by
  have hTy : s.TypeIs (.ref z) "zip" := ⟨_, hz, rfl⟩
  unfold pyNext
  refine wpAny_bind (wpAny_attempt (wpAny_callSpecial?_slot (name := Str.ofString "__next__") hTy F.slot_zip_next
    (wpAny_call_entry F.slot_zip_next hTy F.entry_zip_next (zipT_next_end_held hh D hz hT hTI h1 h2 hl1 hl2 hend fun h' e hk he => ?_) (F.args_zip_next_1 _))))
  obtain ⟨o, ho, hc⟩ := he
  refine wpAny_bind (wpAny_isInstance (T := "StopIteration") (b := true) ⟨o, ho, hc⟩ isSubtype_stop ?_)
  exact wpAny_pure (hQ _ hk)

/-- the zip amid its run, its tuples kept by others -/
structure ZSt (h : Heap) (z TI TO i1 i2 a b : Addr) (k : Nat) : Prop where
  ti : IsPair h TI (.ref i1) (.ref i2)
  one : h.IsTupleIter i1 a k
  two : h.IsTupleIter i2 b k
  fst : (IsZip h z TI TO .none ∧ ∃ x y, IsPair h TO x y) ∨ ∃ T f o, IsZipHeld h z TI TO T f ∧ h.get? T = some o ∧ T ≠ z ∧ T ≠ i1 ∧ T ≠ i2
theorem ZSt.at {h h' : Heap} {z TI TO i1 i2 a b : Addr} {k : Nat} (x : ZSt h z TI TO i1 i2 a b k) {S : Addr} (e : ∀ c o, c ≠ S → h.get? c = some o → h'.get? c = some o) (es : ∃ o, h'.get? S = some o) (n1 : S ≠ z) (n2 : S ≠ TI) (n3 : S ≠ TO) (n4 : S ≠ i1) (n5 : S ≠ i2) : ZSt h' z TI TO i1 i2 a b k := by
  obtain ⟨h1, h2, h3, h4⟩ := x
  refine ⟨e _ _ n2.symm h1, h2.at fun o q => e _ o n4.symm q, h3.at fun o q => e _ o n5.symm q, ?_⟩
  rcases h4 with ⟨h4, x, y, h5⟩ | ⟨T, f, o, h4, h5, h6⟩
  · exact .inl ⟨e _ _ n1.symm h4, x, y, e _ _ n3.symm h5⟩
  · by_cases hT : T = S
    · obtain ⟨o', es⟩ := es
      exact .inr ⟨T, f, o', e _ _ n1.symm h4, by rw [hT]; exact es, h6⟩
    · exact .inr ⟨T, f, o, e _ _ n1.symm h4, e _ _ hT h5, h6⟩
theorem zst_item {z TI TO i1 i2 l1 l2 : Addr} {k : Nat} {xs ys : Array Value} {x y : Value} {Q : Option Value → Shared → Prop} (D : ZipApart z TI TO i1 i2 l1 l2)
    (st : ZSt s.heap z TI TO i1 i2 l1 l2 k) (hl1 : s.heap.IsTuple l1 xs) (hl2 : s.heap.IsTuple l2 ys) (hx : xs[k]? = some x) (hy : ys[k]? = some y)
    (hQ : ∀ h', ZSt h' z TI TO i1 i2 l1 l2 (k + 1) → IsPair h' s.heap.objs.size x y → h'.objs.size = s.heap.objs.size + 1 →
      (∀ c o, c ≠ z → c ≠ TO → c ≠ i1 → c ≠ i2 → s.heap.get? c = some o → h'.get? c = some o) → Q (some (.ref s.heap.objs.size)) { s with heap := h' }) :
    wpAny (model prog w) A (pyNext (.ref z)) Q E s := by
  obtain ⟨hTI, h1, h2, h4⟩ := st
  have li1 : i1 < s.heap.objs.size := by obtain ⟨_, e, _⟩ := h1; exact Heap.lt_size e
  have li2 : i2 < s.heap.objs.size := by obtain ⟨_, e, _⟩ := h2; exact Heap.lt_size e
  rcases h4 with ⟨hz, a, b, hTO⟩ | ⟨T, f, o, hz, hT, n1, n2, n3⟩
  · refine pyNext_zipT_item D hz hTI hTO h1 h2 hl1 hl2 hx hy fun h' z' TO' h1' h2' hp hsz hk => hQ h' ⟨hk _ _ D.TIz D.TITO D.TIi1 D.TIi2 hTI, h1', h2', .inr ⟨s.heap.objs.size, false, _, z', hp, Nat.ne_of_gt (Heap.lt_size hz), Nat.ne_of_gt li1, Nat.ne_of_gt li2⟩⟩ hp hsz hk
  · exact pyNext_zipT_item_held D hz hT hTI h1 h2 hl1 hl2 hx hy fun h' z' h1' h2' hp hsz hk => hQ h' ⟨hk _ _ D.TIz D.TIi1 D.TIi2 hTI, h1', h2', .inr ⟨T, true, o, z', hk _ _ n1 n2 n3 hT, n1, n2, n3⟩⟩ hp hsz fun c o c1 _ c3 c4 e => hk c o c1 c3 c4 e
theorem zst_end {z TI TO i1 i2 l1 l2 : Addr} {k : Nat} {xs ys : Array Value} {Q : Option Value → Shared → Prop} (hh : A.handled = none) (D : ZipApart z TI TO i1 i2 l1 l2)
    (st : ZSt s.heap z TI TO i1 i2 l1 l2 k) (hl1 : s.heap.IsTuple l1 xs) (hl2 : s.heap.IsTuple l2 ys) (hend : xs[k]? = none ∨ ys[k]? = none)
    (hQ : ∀ h', (∀ c o, c ≠ z → c ≠ TO → c ≠ i1 → c ≠ i2 → s.heap.get? c = some o → h'.get? c = some o) → Q none { s with heap := h' }) :
    wpAny (model prog w) A (pyNext (.ref z)) Q E s := by
  obtain ⟨hTI, h1, h2, h4⟩ := st
  rcases h4 with ⟨hz, a, b, hTO⟩ | ⟨T, f, o, hz, hT, n1, n2, n3⟩
  · exact pyNext_zipT_end hh D hz hTI hTO h1 h2 hl1 hl2 hend hQ
  · exact pyNext_zipT_end_held hh D hz hT hTI h1 h2 hl1 hl2 hend fun h' hk => hQ h' fun c o c1 _ c3 c4 e => hk c o c1 c3 c4 e
/-- the pairs that stand at as -/
structure ZPairs (xs ys : Array Value) (lo : Addr) (h : Heap) (as : List Addr) : Prop where
  rise : as.Pairwise (· < ·)
  above : ∀ a ∈ as, lo < a
  pairs : ∀ (j : Nat) (a : Addr), as[j]? = some a → ∃ x y, xs[j]? = some x ∧ ys[j]? = some y ∧ h.get? a = some { cls := .type "tuple", data := .seq #[x, y] }
end
section
variable {prog : Program} {w : World} {A : Around} {s : Shared} {R : Result → Shared → Prop} {xs ys : Array Value} {z TI TO i1 i2 l1 l2 S : Addr} {N : Nat}
theorem zl_loop (hh : A.handled = none) (D : ZipApart z TI TO i1 i2 l1 l2) (nz : S ≠ z) (nTI : S ≠ TI) (nTO : S ≠ TO) (n1 : S ≠ i1) (n2 : S ≠ i2) (m1 : S ≠ l1) (m2 : S ≠ l2) (lz : z < S) (lTO : TO < S) (li1 : i1 < S) (li2 : i2 < S) (hn : N ≤ sizeLine) (hx : xs.size = N) (hy : ys.size = N) (res : Value) {h₁ : Heap}
    (hR : ∀ h' tk acc c as, (∀ b o, b ≠ S → b ≠ z → b ≠ TO → b ≠ i1 → b ≠ i2 → h₁.get? b = some o → h'.get? b = some o) → h'.get? S = some { cls := .type "list", dict := none, data := .seq acc c, slots := #[] } → as.length = N → ZPairs xs ys S h' as →
      acc.toList = as.map Value.ref → R (.ok (.ret res)) { s with heap := h', toks := tk }) :
    ∀ (k i : Nat) (h : Heap) (tk c : Nat) (acc : Array Value) (as : List Addr), N - i = k → i ≤ N → ZSt h z TI TO i1 i2 l1 l2 i → h.IsTuple l1 xs → h.IsTuple l2 ys → (∀ b o, b ≠ S → b ≠ z → b ≠ TO → b ≠ i1 → b ≠ i2 → h₁.get? b = some o → h.get? b = some o) →
      h.get? S = some { cls := .type "list", dict := none, data := .seq acc c, slots := #[] } → acc.toList = as.map Value.ref → as.length = i → ZPairs xs ys S h as →
      codeAny (model prog w) A (.builtin "list.extend.loop" ⟨[.ref S, .ref z, res], []⟩) R { s with heap := h, toks := tk } := by
  intro k
  induction k with
  | zero =>
    intro i h tk c acc as hk hi hst q1 q2 hkeep hS hacc hal hG
    have hin : i = N := by omega
    refine codeAny_builtin PySem.F.entry_extend_loop ?_
    rw [Around.under_plainId PySem.F.plain_extend_loop _]
    show wpAny _ A.in1 (pyNext (.ref z) >>= _) _ _ _
    refine wpAny_bind (zst_end (s := { s with heap := h, toks := tk }) (A := A.in1) hh D hst q1 q2 (.inl (by simp [hx, hin])) fun h' he => ?_)
    refine wpAny_pure (hR h' tk acc c as (fun b o h1 h2 h3 h4 h5 e => he b o h2 h3 h4 h5 (hkeep b o h1 h2 h3 h4 h5 e)) (he S _ nz nTO n1 n2 hS) (by omega) ⟨hG.rise, hG.above, fun j a hj => ?_⟩ hacc)
    obtain ⟨x, y, e1, e2, e3⟩ := hG.pairs j a hj
    have ha := hG.above a (List.mem_of_getElem? hj)
    exact ⟨x, y, e1, e2, he a _ (Nat.ne_of_gt (Nat.lt_trans lz ha)) (Nat.ne_of_gt (Nat.lt_trans lTO ha)) (Nat.ne_of_gt (Nat.lt_trans li1 ha)) (Nat.ne_of_gt (Nat.lt_trans li2 ha)) e3⟩
  | succ k ih =>
    intro i h tk c acc as hk hi hst q1 q2 hkeep hS hacc hal hG
    have hlt : i < N := by omega
    have hsz : acc.size = i := by rw [← Array.length_toList, hacc, List.length_map, hal]
    have ex : xs[i]? = some xs[i] := Array.getElem?_eq_getElem (by omega)
    have ey : ys[i]? = some ys[i] := Array.getElem?_eq_getElem (by omega)
    refine codeAny_builtin PySem.F.entry_extend_loop ?_
    rw [Around.under_plainId PySem.F.plain_extend_loop _]
    show wpAny _ A.in1 (pyNext (.ref z) >>= _) _ _ _
    have hSl : S < h.objs.size := Heap.lt_size hS
    refine wpAny_bind (zst_item (s := { s with heap := h, toks := tk }) D hst q1 q2 ex ey fun h' hst' ht hz hkp => ?_)
    dsimp only at ht hz hkp ⊢
    have hS' := hkp S _ nz nTO n1 n2 hS
    have up : ∀ b o, b ≠ S → h'.get? b = some o → (h'.update S (Obj.mapSeq (·.push (Value.ref h.objs.size)))).get? b = some o := fun b o hb e => (Heap.get?_update_other _ _ (Ne.symm hb)).trans e
    have hS2 := Heap.get?_update_self (Obj.mapSeq (·.push (Value.ref h.objs.size))) hS' rfl
    have tup : ∀ {l : Addr} {its : Array Value}, S ≠ l → l ≠ z → l ≠ TO → l ≠ i1 → l ≠ i2 → h.IsTuple l its → (h'.update S (Obj.mapSeq (·.push (Value.ref h.objs.size)))).IsTuple l its := fun {l its} a0 a1 a2 a3 a4 q => by
      obtain ⟨o, ho, r⟩ := q
      exact ⟨o, up l o a0.symm (hkp l o a1 a2 a3 a4 ho), r⟩
    show wpAny _ A.in1 (updateSeq S (·.push (Value.ref h.objs.size)) >>= _) _ _ _
    refine wpAny_bind ?_
    refine wpAny_updateSeq hS' rfl (wpAny_pure ⟨plainId_quiet PySem.F.plain_extend_loop _, ih (i + 1) _ tk _ (acc.push (Value.ref h.objs.size)) (as ++ [h.objs.size]) (by omega) hlt (hst'.at up ⟨_, hS2⟩ nz nTI nTO n1 n2) (tup m1 D.l1z D.l1TO D.l1i1 D.l1i2 q1) (tup m2 D.l2z D.l2TO D.l2i1 D.l2i2 q2)
      (fun b o h1 h2 h3 h4 h5 e => up b o h1 (hkp b o h2 h3 h4 h5 (hkeep b o h1 h2 h3 h4 h5 e))) hS2 (by rw [Array.toList_push, hacc, List.map_append]; rfl) (by rw [List.length_append, hal]; rfl) ⟨?_, ?_, ?_⟩⟩) (by rw [hsz]; omega) (by show (acc.push (Value.ref h.objs.size)).size ≤ sizeLine + 1; rw [Array.size_push, hsz]; omega)
    · refine List.pairwise_append.mpr ⟨hG.rise, List.pairwise_singleton _ _, fun a ha b hb => ?_⟩
      rw [List.mem_singleton.mp hb]
      obtain ⟨j, hj⟩ := List.mem_iff_getElem?.mp ha
      obtain ⟨x, y, _, _, e⟩ := hG.pairs j a hj
      exact Heap.lt_size e
    · intro a ha
      rcases List.mem_append.mp ha with ha | ha
      · exact hG.above a ha
      · rw [List.mem_singleton.mp ha]; exact hSl
    · intro j b hj
      rcases Nat.lt_trichotomy j as.length with g | g | g
      · rw [List.getElem?_append_left g] at hj
        obtain ⟨x, y, e1, e2, e3⟩ := hG.pairs j b hj
        have ha := hG.above b (List.mem_of_getElem? hj)
        exact ⟨x, y, e1, e2, up b _ (Nat.ne_of_gt ha) (hkp b _ (Nat.ne_of_gt (Nat.lt_trans lz ha)) (Nat.ne_of_gt (Nat.lt_trans lTO ha)) (Nat.ne_of_gt (Nat.lt_trans li1 ha)) (Nat.ne_of_gt (Nat.lt_trans li2 ha)) e3)⟩
      · subst g
        have hb : h.objs.size = b := by simpa using hj
        subst hb
        exact ⟨_, _, by rw [hal]; exact ex, by rw [hal]; exact ey, up _ _ (Nat.ne_of_gt hSl) ht⟩
      · have hnone : (as ++ [h.objs.size])[j]? = none := List.getElem?_eq_none (by rw [List.length_append, List.length_singleton]; omega)
        rw [hnone] at hj; cases hj
theorem zl_call {E : Value → Shared → Prop} {Q : Value → Shared → Prop} (hh : A.handled = none) (D : ZipApart z TI TO i1 i2 l1 l2) (hst : ZSt s.heap z TI TO i1 i2 l1 l2 0) (q1 : s.heap.IsTuple l1 xs) (q2 : s.heap.IsTuple l2 ys) (hTO : TO < s.heap.objs.size) (hn : N ≤ sizeLine) (hx : xs.size = N) (hy : ys.size = N)
    (hQ : ∀ h' tk acc c as, (∀ b o, b ≠ z → b ≠ TO → b ≠ i1 → b ≠ i2 → s.heap.get? b = some o → h'.get? b = some o) → h'.get? s.heap.objs.size = some { cls := .type "list", dict := none, data := .seq acc c, slots := #[] } → as.length = N → ZPairs xs ys s.heap.objs.size h' as →
      acc.toList = as.map Value.ref → Q (.ref s.heap.objs.size) { s with heap := h', toks := tk }) :
    wpAny (model prog w) A (call (.type "list") [.ref z]) Q E s := by
  have lTI : TI < s.heap.objs.size := Heap.lt_size hst.ti
  have li1 : i1 < s.heap.objs.size := by obtain ⟨_, e, _⟩ := hst.one; exact Heap.lt_size e
  have li2 : i2 < s.heap.objs.size := by obtain ⟨_, e, _⟩ := hst.two; exact Heap.lt_size e
  have ll1 : l1 < s.heap.objs.size := by obtain ⟨_, e, _⟩ := q1; exact Heap.lt_size e
  have ll2 : l2 < s.heap.objs.size := by obtain ⟨_, e, _⟩ := q2; exact Heap.lt_size e
  have zobj : ∃ oz, s.heap.get? z = some oz ∧ oz.cls = .type "zip" := by
    rcases hst.fst with ⟨e, _⟩ | ⟨_, _, _, e, _⟩
    · exact ⟨_, e, rfl⟩
    · exact ⟨_, e, rfl⟩
  obtain ⟨oz, hoz, hcz⟩ := zobj
  have lz : z < s.heap.objs.size := Heap.lt_size hoz
  refine callType_codes (Q₁ := fun obj s₁ => obj = .ref s.heap.objs.size ∧ s₁ = { s with heap := s.heap.push { cls := .type "list", data := .seq #[] } }) PySem.F.called_list (PySem.F.typeCall_list_1 _) PySem.F.entry_list_init
    (code_list_new _ ⟨rfl, rfl⟩) fun obj s₁ h₁ => ?_
  obtain ⟨rfl, rfl⟩ := h₁
  have hS : (s.heap.push { cls := .type "list", data := .seq #[] }).get? s.heap.objs.size = some { cls := .type "list", data := .seq #[] } := Heap.get?_push_size _ rfl
  refine ⟨⟨_, hS, rfl⟩, PySem.F.args_list_init_2 _ _, ?_⟩
  show wpAny _ A.in1.in1 (do let old ← Builtin.List.listItems (.ref s.heap.objs.size); Builtin.List.listUpdate (.ref s.heap.objs.size) (fun _ => #[]); letGo old.toList.reverse; Builtin.List.listExtendWith (.ref s.heap.objs.size) (.ref z) .none) _ _ _
  refine wpAny_bind ?_
  unfold Builtin.List.listItems
  refine wpAny_bind (wpAny_seqItems hS rfl (wpAny_pure ?_))
  show wpAny _ A.in1.in1 (updateSeq s.heap.objs.size (fun _ => #[]) >>= fun _ => letGo (#[] : Array Value).toList.reverse >>= fun _ => Builtin.List.listExtendWith (.ref s.heap.objs.size) (.ref z) .none) _ _ _
  refine wpAny_bind (wpAny_updateSeq hS rfl ?_)
  have hS2 := Heap.get?_update_self (Obj.mapSeq (fun _ => (#[] : Array Value))) hS rfl
  refine wpAny_bind (wpAny_letGo ?_)
  unfold Builtin.List.listExtendWith
  have up : ∀ (h : Heap) (f : Obj → Obj), (∀ b o, s.heap.get? b = some o → h.get? b = some o) → ∀ b o, s.heap.get? b = some o → (h.update s.heap.objs.size f).get? b = some o := fun h f q b o e =>
    (Heap.get?_update_other _ _ (Ne.symm (Nat.ne_of_lt (Heap.lt_size e)))).trans (q b o e)
  have k1 : ∀ b o, s.heap.get? b = some o → (s.heap.push { cls := .type "list", data := .seq #[] }).get? b = some o := fun b o e => Heap.get?_push_of_some _ e
  have k2 := up _ (Obj.mapSeq (fun _ => (#[] : Array Value))) k1
  have hT : ∀ {h : Heap}, (∀ b o, s.heap.get? b = some o → h.get? b = some o) → ({ s with heap := h } : Shared).TypeIs (.ref z) "zip" := fun {h} q => ⟨oz, q z oz hoz, hcz⟩
  refine wpAny_bind (wpAny_typeOf (hT k2) ?_)
  have e1 : Builtin.List.listSameRef (.ref s.heap.objs.size) (.ref z) = false := by simp [Builtin.List.listSameRef, Nat.ne_of_gt lz]
  have e2 : (Value.type "zip" == Value.type "list") = false := by decide
  have e3 : (Value.type "zip" == Value.type "tuple") = false := by decide
  simp only [e1, e2, e3, Bool.or_false, Bool.false_eq_true, if_false]
  have zi : ∀ {h : Heap} {Q2 : Value → Shared → Prop} {A2 : Around} {E2 : Value → Shared → Prop}, (∀ b o, s.heap.get? b = some o → h.get? b = some o) → Q2 (.ref z) { s with heap := h } → wpAny (model prog w) A2 (pyIter (.ref z)) Q2 E2 { s with heap := h } := fun {h Q2 A2 E2} q r => by
    rcases hst.fst with ⟨e, _⟩ | ⟨_, _, _, e, _⟩
    · exact wpAny_pyIter_zip (s := { s with heap := h }) (q _ _ e) r
    · have hT2 := hT q
      refine wpAny_pyIter_slot hT2 F.slot_zip_iter (wpAny_call_entry F.slot_zip_iter hT2 F.entry_zip_iter ?_ (F.args_zip_iter_1 _))
      show wpAny _ _ (ret (.ref z)) _ _ _
      exact wpAny_pure ⟨_, rfl, "zip", _, hT2, F.slot_zip_next.lookup, r⟩
  refine wpAny_bind (zi k2 ?_)
  refine wpAny_bind (wpAny_holding ?_)
  unfold Builtin.List.listLengthHint
  refine wpAny_bind (wpAny_specialOf (hT k2) zl_no_len ?_)
  show wpAny _ A.in1.in1 (specialOf (Value.ref z) (Str.ofString "__length_hint__") >>= _) _ _ _
  refine wpAny_bind (wpAny_specialOf (hT k2) zl_no_hint ?_)
  refine wpAny_pure ?_
  show wpAny _ A.in1.in1 (rule "list.extend.makes-room" >>= fun _ => Builtin.List.listTouch (.ref s.heap.objs.size) >>= fun _ =>
    again (.builtin "list.extend.loop" ⟨[.ref s.heap.objs.size, .ref z, .none], []⟩)) _ _ _
  refine wpAny_bind (wpAny_rule ?_)
  refine wpAny_bind ?_
  show wpAny _ A.in1.in1 (updateSeq s.heap.objs.size (·.push .none) >>= fun _ => updateSeq s.heap.objs.size (·.pop)) _ _ _
  refine wpAny_bind (wpAny_updateSeq hS2 rfl ?_)
  have hS3 := Heap.get?_update_self (Obj.mapSeq (·.push Value.none)) hS2 rfl
  refine wpAny_updateSeq (hz := by seq_fits) hS3 rfl ?_
  have hS4 := Heap.get?_update_self (Obj.mapSeq (·.pop)) hS3 rfl
  have k4 := up _ (Obj.mapSeq (·.pop)) (up _ (Obj.mapSeq (·.push Value.none)) k2)
  refine wpAny_pure ⟨plainId_quiet PySem.F.plain_extend_loop _, ?_⟩
  refine zl_loop (xs := xs) (ys := ys) (N := N) (S := s.heap.objs.size) (s := s) (h₁ := s.heap) (A := A.in1) hh D (Nat.ne_of_gt lz) (Nat.ne_of_gt lTI) (Nat.ne_of_gt hTO) (Nat.ne_of_gt li1) (Nat.ne_of_gt li2) (Nat.ne_of_gt ll1) (Nat.ne_of_gt ll2) lz hTO li1 li2 hn hx hy .none
    (fun h' tk acc c as a1 a2 a3 a4 a5 => ⟨rfl, hQ h' tk acc c as (fun b o b1 b2 b3 b4 e => a1 b o (Nat.ne_of_lt (Heap.lt_size e)) b1 b2 b3 b4 e) a2 a3 a4 a5⟩)
    N 0 _ s.toks _ #[] [] (Nat.sub_zero _) (Nat.zero_le _) ?_ (?_ : Heap.IsTuple _ l1 xs) (?_ : Heap.IsTuple _ l2 ys) (fun b o _ _ _ _ _ e => k4 b o e) hS4 rfl rfl ⟨List.Pairwise.nil, (fun _ ha => nomatch ha), (fun j a hj => by simp at hj)⟩
  · exact hst.at (S := s.heap.objs.size) (fun c o _ e => k4 c o e) ⟨_, hS4⟩ (Nat.ne_of_gt lz) (Nat.ne_of_gt lTI) (Nat.ne_of_gt hTO) (Nat.ne_of_gt li1) (Nat.ne_of_gt li2)
  · obtain ⟨o, ho, r⟩ := q1
    exact ⟨o, k4 _ _ ho, r⟩
  · obtain ⟨o, ho, r⟩ := q2
    exact ⟨o, k4 _ _ ho, r⟩
end
end RZ
namespace RZ
open PySem PySem.Spec PyProof.Rows L2
/-- pairs laid one behind the other -/
inductive Lay : Hp → List Addr → List (V × V) → Hp → Prop
  | nil {H : Hp} : Lay H [] [] H
  | cons {H H2 : Hp} {p : Addr} {ps : List Addr} {x y : V} {prs : List (V × V)} : H p = none → Lay (upd H p (.tup [x, y])) ps prs H2 → Lay H (p :: ps) ((x, y) :: prs) H2
theorem Un.more {fs ex : List Addr} {H H1 : Hp} {h h' : Heap} {a : Addr} {o : HO} (u : Un fs ex H H1 h h') (hp : h.objs.size ≤ a) (hn : H1 a = none) : Un fs ex H (upd H1 a o) h h' where
  keep := u.keep
  slot := u.slot
  free := fun b ob q n hx => by rw [upd_ne (Nat.ne_of_lt (Nat.lt_of_lt_of_le (Heap.lt_size q) hp))]; exact u.free b ob q n hx
  there := u.there
  tups := fun b xs q => by
    have z := u.tups b xs q
    rw [upd_ne (ne_of_none z hn)]; exact z
  frzs := fun b ob v q => by
    have z := u.frzs b ob v q
    rw [upd_ne (ne_of_none z hn)]; exact z
  tbls := fun b ps q => by
    obtain ⟨m, z⟩ := u.tbls b ps q
    exact ⟨m, by rw [upd_ne (ne_of_none z hn)]; exact z⟩
theorem lay_all {P : Program} {w : World} {fs : List Addr} {H0 : Hp} {h0 h' : Heap} : ∀ (as : List Addr) (prs : List (V × V)) (H : Hp), Un fs [] H0 H h0 h' → HOk P w H h' → (∀ a ∈ as, h0.objs.size ≤ a ∧ H a = none) → as.Pairwise (· < ·) →
    (∀ (j : Nat) (a : Addr), as[j]? = some a → ∃ x y u v, prs[j]? = some (x, y) ∧ RelV x u ∧ RelV y v ∧ h'.get? a = some { cls := .type "tuple", data := .seq #[u, v] }) → as.length = prs.length →
    ∃ H2, Lay H as prs H2 ∧ Un fs [] H0 H2 h0 h' ∧ HOk P w H2 h' ∧ ∀ b, b ∉ as → H2 b = H b
  | [], [], H, un, ok, _, _, _, _ => ⟨H, .nil, un, ok, fun _ _ => rfl⟩
  | [], _ :: _, _, _, _, _, _, _, hl => by simp at hl
  | _ :: _, [], _, _, _, _, _, _, hl => by simp at hl
  | a :: as, (x, y) :: prs, H, un, ok, hf, hp, ht, hl => by
    obtain ⟨ha, hn⟩ := hf a (List.mem_cons_self ..)
    obtain ⟨x', y', u, v, e, r1, r2, e3⟩ := ht 0 a rfl
    cases e
    have ok1 : HOk P w (upd H a (.tup [x, y])) h' := ok.laidN (fun _ _ q => q) hn ⟨by show 2 ≤ sizeLine; decide, [u, v], .cons r1 (.cons r2 .nil), ⟨_, e3, rfl, _, rfl⟩⟩
    obtain ⟨p1, p2⟩ := List.pairwise_cons.mp hp
    obtain ⟨H2, q1, q2, q3, q4⟩ := lay_all as prs (upd H a (.tup [x, y])) (Un.more un ha hn) ok1 (fun b hb => ⟨(hf b (List.mem_cons_of_mem _ hb)).1, by
      rw [upd_ne (Nat.ne_of_gt (p1 b hb))]; exact (hf b (List.mem_cons_of_mem _ hb)).2⟩) p2 (fun j b hj => ht (j + 1) b (by simpa using hj)) (by simpa using hl)
    refine ⟨H2, .cons hn q1, q2, q3, fun b hb => ?_⟩
    rw [q4 b (fun z => hb (List.mem_cons_of_mem _ z)), upd_ne (fun z => hb (by rw [z]; exact List.mem_cons_self ..))]
theorem vals_refs : ∀ (as : List Addr), Vals (as.map V.ref) (as.map Value.ref)
  | [] => .nil
  | a :: as => .cons rfl (vals_refs as)
def tListZip (K : PySem.W.Frag) (ta : TA) : TE := fun σ H Q => ta σ H fun vs H1 => ∃ (a b : Addr) (xs ys : List V), vs = [.ref a, .ref b] ∧ SqT K H1 a xs ∧ SqT K H1 b ys ∧ xs.length = ys.length ∧
  ∀ ps H2 l, Lay H1 ps (xs.zip ys) H2 → H2 l = none → Q (.ref l) (upd H2 l (.lst (ps.map V.ref)))
theorem pe_listZip {X : Cx} {e e2 : Expr} {ta : TA} {p pos p2 pos2 : Pos} (hgl : Gl X "list") (hml : X.mg "list" = none) (hg : Gl X "zip") (hm : X.mg "zip" = none) (ha : PA X [e, e2] ta) (hc : X.calm = true := by rfl)
    (na : starEach [.Call (.Name "zip" p2) [e, e2] [] pos2] X.env = (false, eval (.Call (.Name "zip" p2) [e, e2] [] pos2) X.env) :: starEach [] X.env := by rfl)
    (hs : starEach [e, e2] X.env = (false, eval e X.env) :: starEach [e2] X.env := by rfl) (hpl : (backTo pos2 (starEach [e2] X.env)).any (·.1) = false := by rfl) :
    PE X (.Call (.Name "list" p) [.Call (.Name "zip" p2) [e, e2] [] pos2] [] pos) (tListZip X.K ta) := by
  refine ⟨fun pins s σ H Q I h => ?_⟩
  refine Call_ (ld_blt I hgl hml PyProof.Rows.boot_list ?_)
  refine PyProof.Rows.callWith_type1 (PyProof.Rows.args_cons ?_ na) na rfl
  refine Call_ (ld_blt I hg hm PyProof.Rows.boot_zip (PyProof.Rows.callWith_type1 (thn (ha.run pos2 pins s σ H _ I h) fun us s1 ⟨vs, H1, I1, r1, q1⟩ => ?_) hs hpl))
  obtain ⟨a, b, xs, ys, ex, hqx, hqy, hlen, q⟩ := q1
  subst ex
  cases r1 with
  | cons r rr =>
    cases rr with
    | cons r' rr =>
      cases rr
      cases r
      cases r'
      obtain ⟨its, rv, p1, hz1⟩ := I1.tuple hqx
      obtain ⟨its2, rv2, p2', _⟩ := I1.tuple hqy
      obtain ⟨o1, ho1, _⟩ := id p1
      obtain ⟨o2, ho2, _⟩ := id p2'
      have g1 : s1.heap.IsTuple a its.toArray := p1
      have g2 : s1.heap.IsTuple b its2.toArray := p2'
      have l1 := rv.length
      have l2 := rv2.length
      have tk : ∀ {h' : Heap} {c : Addr} {it : Array Value}, (∀ c o, s1.heap.get? c = some o → h'.get? c = some o) → s1.heap.IsTuple c it → h'.IsTuple c it := fun {h' c it} k g => by
        obtain ⟨o, ho, r⟩ := g
        exact ⟨o, k _ _ ho, r⟩
      refine call_zipT g1 g2 fun h' hz hTI hTO h1 h2 hsz hk => ?_
      refine PyProof.Rows.args_nil ?_
      have D := PySem.W.ktu_apart s1.heap.objs.size a b (Heap.lt_size ho1) (Heap.lt_size ho2)
      refine zl_call (s := { s1 with heap := h' }) (N := xs.length) (xs := its.toArray) (ys := its2.toArray) (I1.ok.hd hc) D ⟨hTI, h1, h2, .inl ⟨hz, _, _, hTO⟩⟩ (tk hk g1) (tk hk g2) (Heap.lt_size hTO) hz1 (by simp [← l1]) (by simp [← l2, hlen]) fun h2 tk acc c as kp hS hal zp hacc => ?_
      have kall : ∀ b o, s1.heap.get? b = some o → h2.get? b = some o := fun b o e => by
        have hb := Heap.lt_size e
        exact kp b o (Nat.ne_of_lt (Nat.lt_of_lt_of_le hb (Nat.le_add_right ..))) (Nat.ne_of_lt (Nat.lt_of_lt_of_le hb (Nat.le_add_right ..))) (Nat.ne_of_lt hb) (Nat.ne_of_lt (Nat.lt_of_lt_of_le hb (Nat.le_add_right ..))) (hk b o e)
      have hle : s1.heap.objs.size ≤ h'.objs.size := by omega
      have hS' : h2.get? h'.objs.size = some { cls := .type "list", dict := none, data := .seq acc c, slots := #[] } := hS
      have hzl : as.length = (xs.zip ys).length := by rw [hal, List.length_zip]; omega
      obtain ⟨H2, q1, q2, q3, q4⟩ := lay_all (P := X.prog) (w := X.w) (fs := X.fs) (H0 := H1) (h0 := s1.heap) (h' := h2) as (xs.zip ys) H1 (Un.kept kall) (I1.hok.kept kall) (fun b hb => ⟨Nat.le_trans hle (Nat.le_of_lt (zp.above b hb)), I1.hok.fresh (Nat.le_trans hle (Nat.le_of_lt (zp.above b hb)))⟩) zp.rise (fun j b hj => by
        obtain ⟨u, v, e1, e2, e3⟩ := zp.pairs j b hj
        have e1' : its[j]? = some u := by simpa using e1
        have e2' : its2[j]? = some v := by simpa using e2
        have hj1 : j < xs.length := by rw [l1]; exact (List.getElem?_eq_some_iff.mp e1').1
        have hj2 : j < ys.length := by omega
        obtain ⟨u', f1, r1⟩ := rv.get (List.getElem?_eq_getElem hj1)
        obtain ⟨v', f2, r2⟩ := rv2.get (List.getElem?_eq_getElem hj2)
        rw [e1'] at f1
        rw [e2'] at f2
        cases f1
        cases f2
        exact ⟨_, _, u, v, by rw [List.getElem?_zip_eq_some]; exact ⟨List.getElem?_eq_getElem hj1, List.getElem?_eq_getElem hj2⟩, r1, r2, e3⟩) hzl
      have hSn : h'.objs.size ∉ as := fun z => Nat.lt_irrefl _ (zp.above _ z)
      have hSH : H2 h'.objs.size = none := by rw [q4 _ hSn]; exact I1.hok.fresh hle
      have okF : HOk X.prog X.w (upd H2 h'.objs.size (.lst (as.map V.ref))) h2 := q3.laidN (fun _ _ q => q) hSH ⟨by rw [List.length_map, hal]; exact hz1, as.map Value.ref, c, vals_refs as, by rw [hS', ← hacc]⟩
      exact ⟨.ref h'.objs.size, _, I1.un (t' := tk) (Un.more q2 hle hSH) okF, rfl, q as H2 _ q1 hSH⟩
end RZ
namespace DL
open L2 PySem PySem.Spec PyProof.Rows
open Evl (Ex ex_l ex_t sz_of)
section
variable {K : PySem.W.Frag} {T : Tb} {S : SA} {E : XK}
theorem lay_dn {n : Nat} : ∀ {ps : List Addr} {prs : List (V × V)} {H H2 Hb : Hp} {ds es : List D}, RZ.Lay H ps prs H2 → World T S Hb H → DnA K Hb (prs.map (·.1)) ds → DnA K Hb (prs.map (·.2)) es →
    ∃ Hb2, Stp K T S Hb H n Hb2 H2 n ∧ DnA K Hb2 (ps.map V.ref) (zipD ds es) := by
  intro ps prs H H2 Hb ds es l
  induction l generalizing Hb ds es with
  | nil =>
    intro w h1 h2
    cases h1
    cases h2
    exact ⟨Hb, .refl w, .nil⟩
  | @cons H H2 p ps x y prs hp l ih =>
    intro w h1 h2
    cases h1 with
    | cons a1 a2 =>
      cases h2 with
      | cons b1 b2 =>
        have s1 : Stp K T S Hb H n _ _ n := .new w hp (o := .tup [x, y])
        have ex := Ex.new (o := .tup [x, y]) (free_of w.ex hp)
        obtain ⟨Hb2, s2, q⟩ := ih s1.wd (a2.up ex) (b2.up ex)
        refine ⟨Hb2, s1.trans s2, ?_⟩
        have e0 : Dn K (upd Hb p (.tup [x, y])) (.ref p) (.tup [_, _]) := .tup (SqT.of upd_same) (.cons (a1.up ex) (.cons (b1.up ex) .nil))
        exact .cons (e0.up s2.ex) q
def xLZip (G : DTA) : DT := fun ρ n P XP => G ρ n (fun ss n1 => match ss with
  | [.d (.tup xs), .d (.tup ys)] => xs.length = ys.length ∧ P (.lst (zipD xs ys)) n1
  | _ => False) XP
theorem zip_fst : ∀ {xs ys : List V}, xs.length = ys.length → (xs.zip ys).map (·.1) = xs
  | [], [], _ => rfl
  | [], _ :: _, h => by simp at h
  | _ :: _, [], h => by simp at h
  | x :: xs, y :: ys, h => by simp [zip_fst (xs := xs) (ys := ys) (by simpa using h)]
theorem zip_snd : ∀ {xs ys : List V}, xs.length = ys.length → (xs.zip ys).map (·.2) = ys
  | [], [], _ => rfl
  | [], _ :: _, h => by simp at h
  | _ :: _, [], h => by simp at h
  | x :: xs, y :: ys, h => by simp [zip_snd (xs := xs) (ys := ys) (by simpa using h)]
theorem rd_lzip {ta : TA} {GA : DTA} (h1 : RdA K T S E ta GA) : Rd K T S E (RZ.tListZip K ta) (xLZip GA) := fun σ ρ Hb H n P XP Q w sl h q x =>
  h1 σ ρ Hb H n _ XP _ w sl h (fun ss vs n1 Hb1 H1 s ha p => by
    match ss, ha, p with
    | [.d (.tup xs), .d (.tup ys)], ha, p =>
      obtain ⟨v, u, rfl, hv, hu⟩ := Args.two (ss := []) ha
      obtain ⟨hl, p⟩ := p
      cases hv with
      | @tup a as ds g1 g2 =>
        cases hu with
        | @tup b bs es g3 g4 =>
          have hl2 : as.length = bs.length := by rw [g2.len, g4.len, hl]
          refine ⟨a, b, as, bs, rfl, ex_t s.wd.ex g1, ex_t s.wd.ex g3, hl2, fun ps H2 l lay hn => ?_⟩
          obtain ⟨Hb2, s2, hq⟩ := lay_dn (K := K) (n := n1) lay s.wd (ds := xs) (es := ys) (by rw [zip_fst hl2]; exact g2) (by rw [zip_snd hl2]; exact g4)
          exact (q.step (s.trans s2)).new s2.wd hn (.lst (SqL.of upd_same) (hq.up (Ex.new (free_of s2.wd.ex hn)))) p) x
end
end DL

/-! the end over a head by facts -/
namespace DL
open L2 PySem PySem.Spec PyProof.Rows
theorem walkGE {l : PySem.W.OpenLaw} {n k : Nat} {q : Program} {loose : List Str} {XP : (Str → Option Value) → Heap → Prop} {YP : PySem.World → Heap → Prop} {d : DefRec} {CX : PySem.World → CXT} {x : Str}
    (hn : l.most = some n) (hn2 : n ≤ sizeLine) (hdf : d.params.defaults = []) (hr : Room k callerA)
    (F : ∀ (w : PySem.World) (mg : Str → Option Value) (fa : Addr) (h : Heap), YP w h → h.Ns mainGlobals mg → mg d.name = some (.ref fa) → ∃ K : PySem.W.Frag, K.In h ∧ LawG l w K (CX w) k n x mg fa h)
    (hX : ∀ (w : PySem.World) (H : Hp) (s : Shared) (e : Value) (s' : Shared), CX w [] H s (fun _ _ _ => False) e s' → False) :
    PySem.W.WalkO q loose XP YP l.row.toRowW d [] (fun f vs => PySem.call f vs) :=
  Att.attach_callB hn hdf fun w s₀ s₁ mg mb fa o pm cd doc a vs ns G Y ho hd hcd hmg hobj hints hlen hbits hg => by
    obtain ⟨K, KX, cs, fd, sp, ⟨h1, h2, h3⟩, hF, hb, hsp⟩ := F w mg fa _ Y G.T.g hmg
    exact end_call KX G.T.g G.T.b G.T.builtins G.T.nolimit hg h1 h3 h2 G.T.bmain hobj hints (Nat.le_trans hlen hn2) hr hF hb (fun H hH hS => hsp H a ns hlen hbits hH hS) fun H e s' => hX w H s₁ e s'

/-! ### facts as Bools -/
open He (ga ma fAd cT)
def eqB (a b : Option Bool) : Bool := match a, b with
  | some x, some y => x == y
  | _, _ => false
theorem eqB_ok {a : Option Bool} {b : Bool} (h : eqB a (some b) = true) : a = some b := by
  cases a with
  | none => cases h
  | some x =>
    have e : (x == b) = true := h
    rw [eq_of_beq e]
def allT (f : String → Bool) (ts : List String) : Bool := ts.all f
theorem allT_ok {f : String → Bool} {ts : List String} (h : allT f ts = true) : ∀ t ∈ ts, f t = true := fun t ht => List.all_eq_true.mp h t ht
def tys6 : List String := ["int", "bool", "str", "tuple", "list", "dict"]
def tys7 : List String := ["NoneType", "bool", "int", "str", "list", "tuple", "dict"]
def noTyB (K : PySem.W.Frag) (C : Addr) : Bool := tys6.all fun t => eqB (PySem.W.kitOne K (.ref C) (.type t)) (some false)
theorem noTyB_ok {K : PySem.W.Frag} {C : Addr} (h : noTyB K C = true) : NoTy K C := fun t ht => eqB_ok (List.all_eq_true.mp h t ht)
def excCB (K : PySem.W.Frag) (D : Addr) : Bool :=
  He.eqO (PySem.W.findIn K (.ref D) "__getattribute__") (some (some (.builtin "BaseException.__getattribute__"))) && (He.eqO (PySem.W.findIn K (.ref D) "__getattr__") (some none) && (eqB (PySem.W.subIn K (.ref D) (.type "BaseException")) (some true) && (PySem.W.hasDictIn K D &&
  (He.eqO (PySem.W.findIn K (.ref D) "__class__") (some (some (.builtin "object.__class__"))) && (He.eqO (PySem.W.specialIn K (.builtin "object.__class__") "__get__") (some (some (.builtin "getset_descriptor.__get__"))) && (eqB (PySem.W.takesIn K (.builtin "object.__class__")) (some true) && eqB (PySem.W.mroIn K D (.type "object")) (some true)))))))
theorem b2 {a b : Bool} (h : (a && b) = true) : a = true ∧ b = true := Bool.and_eq_true_iff.mp h
theorem excCB_ok {K : PySem.W.Frag} {D : Addr} (h : excCB K D = true) : ExcC K D := by
  obtain ⟨h1, h⟩ := b2 h
  obtain ⟨h2, h⟩ := b2 h
  obtain ⟨h3, h⟩ := b2 h
  obtain ⟨h4, h⟩ := b2 h
  obtain ⟨h5, h⟩ := b2 h
  obtain ⟨h6, h⟩ := b2 h
  obtain ⟨h7, h8⟩ := b2 h
  exact ⟨He.eqO_ok h1, He.eqO_ok h2, eqB_ok h3, h4, He.eqO_ok h5, He.eqO_ok h6, eqB_ok h7, eqB_ok h8⟩
def errCB (K : PySem.W.Frag) (CS C : Addr) : Bool := excCB K C && (noTyB K C && eqB (PySem.W.exmOne K (.ref C) (.ref CS)) (some true))
theorem errCB_ok {K : PySem.W.Frag} {CS C : Addr} (h : errCB K CS C = true) : ErrC K CS C := by
  obtain ⟨h1, h⟩ := b2 h
  obtain ⟨h2, h3⟩ := b2 h
  exact ⟨excCB_ok h1, noTyB_ok h2, eqB_ok h3⟩
def eqV (a : Option Value) (b : Value) : Bool := He.eqO (some a) (some (some b))
theorem eqV_ok {a : Option Value} {b : Value} (h : eqV a b = true) : a = some b := Option.some.inj (He.eqO_ok h)
def veB : List Value := [.type "ValueError", .type "Exception", .type "BaseException", .type "object"]
structure ErrF (K : PySem.W.Frag) (CS C : Addr) : Prop where
  x : PySem.W.excIn K C veB "ValueError.__new__" = true
  e : PySem.W.keepIn K (.ref C) = true
  b : PySem.W.subIn K (.ref C) (.type "BaseException") = some true
  t : PySem.W.typeIn K (.ref C) = some (.type "type")
  r : ErrC K CS C
  i : PySem.W.kitOne K (.ref C) (.ref C) = some true
  v : PySem.W.kitOne K (.ref C) (.type "ValueError") = some true
def errFB (K : PySem.W.Frag) (CS C : Addr) : Bool := PySem.W.excIn K C veB "ValueError.__new__" && (PySem.W.keepIn K (.ref C) && (eqB (PySem.W.subIn K (.ref C) (.type "BaseException")) (some true) && (eqV (PySem.W.typeIn K (.ref C)) (.type "type") && (errCB K CS C && (eqB (PySem.W.kitOne K (.ref C) (.ref C)) (some true) && eqB (PySem.W.kitOne K (.ref C) (.type "ValueError")) (some true))))))
theorem errFB_ok {K : PySem.W.Frag} {CS C : Addr} (h : errFB K CS C = true) : ErrF K CS C := by
  obtain ⟨h1, h⟩ := b2 h
  obtain ⟨h2, h⟩ := b2 h
  obtain ⟨h3, h⟩ := b2 h
  obtain ⟨h4, h⟩ := b2 h
  obtain ⟨h5, h⟩ := b2 h
  obtain ⟨h6, h7⟩ := b2 h
  exact ⟨h1, h2, eqB_ok h3, eqV_ok h4, errCB_ok h5, eqB_ok h6, eqB_ok h7⟩
def clsB (K : PySem.W.Frag) (C : Addr) : Bool := PySem.W.plainGet K C Str.empty && (PySem.W.hasDictIn K C && (PySem.W.plainOver K C && He.eqO (PySem.W.findIn K (.ref C) "__setattr__") (some (some (.builtin "object.__setattr__")))))
theorem clsB_ok {K : PySem.W.Frag} {C : Addr} (h : clsB K C = true) : Cls K C := by
  obtain ⟨h1, h⟩ := b2 h
  obtain ⟨h2, h⟩ := b2 h
  obtain ⟨h3, h4⟩ := b2 h
  exact ⟨h1, h2, h3, He.eqO_ok h4⟩
def inCB (K : PySem.W.Frag) (C : Addr) : Bool := clsB K C && (He.eqO (PySem.W.findIn K (.ref C) "__class__") (some (some (.builtin "object.__class__"))) && (He.eqO (PySem.W.specialIn K (.builtin "object.__class__") "__get__") (some (some (.builtin "getset_descriptor.__get__"))) &&
  (eqB (PySem.W.takesIn K (.builtin "object.__class__")) (some true) && (eqB (PySem.W.mroIn K C (.type "object")) (some true) && noTyB K C))))
theorem inCB_ok {K : PySem.W.Frag} {C : Addr} (h : inCB K C = true) : InC K C := by
  obtain ⟨h1, h⟩ := b2 h
  obtain ⟨h2, h⟩ := b2 h
  obtain ⟨h3, h⟩ := b2 h
  obtain ⟨h4, h⟩ := b2 h
  obtain ⟨h5, h6⟩ := b2 h
  exact ⟨clsB_ok h1, He.eqO_ok h2, He.eqO_ok h3, eqB_ok h4, eqB_ok h5, noTyB_ok h6⟩
structure ClsF (K : PySem.W.Frag) (C : Addr) (as : List Str) : Prop where
  ic : InC K C
  no : ∀ t ∈ tys7, PySem.W.kitOne K (.type t) (.ref C) = some false
  i : PySem.W.kitOne K (.ref C) (.ref C) = some true
  na : ∀ a ∈ as, NoAttr K C a
def clsFB (K : PySem.W.Frag) (C : Addr) (as : List Str) : Bool := inCB K C && ((tys7.all fun t => eqB (PySem.W.kitOne K (.type t) (.ref C)) (some false)) && (eqB (PySem.W.kitOne K (.ref C) (.ref C)) (some true) && as.all fun a => He.eqO (PySem.W.findIn K (.ref C) a) (some none)))
theorem clsFB_ok {K : PySem.W.Frag} {C : Addr} {as : List Str} (h : clsFB K C as = true) : ClsF K C as := by
  obtain ⟨h1, h⟩ := b2 h
  obtain ⟨h2, h⟩ := b2 h
  obtain ⟨h3, h4⟩ := b2 h
  exact ⟨inCB_ok h1, fun t ht => eqB_ok (List.all_eq_true.mp h2 t ht), eqB_ok h3, fun a ha => He.eqO_ok (List.all_eq_true.mp h4 a ha)⟩
def mkB (K : PySem.W.Frag) (C : Addr) : Bool := PySem.W.makesIn K C && (He.eqO (PySem.W.findIn K (.ref C) "__init__") (some (some (.ref (ma K C "__init__")))) && (PySem.W.isFn K (.ref (ma K C "__init__")) && PySem.W.keepIn K (.ref C)))
theorem mkB_ok {K : PySem.W.Frag} {C : Addr} (h : mkB K C = true) : Mk K C (ma K C "__init__") := by
  obtain ⟨h1, h⟩ := b2 h
  obtain ⟨h2, h⟩ := b2 h
  obtain ⟨h3, h4⟩ := b2 h
  exact ⟨h1, He.eqO_ok h2, h3, h4⟩
section
variable {K : PySem.W.Frag} {mg : Str → Option Value}
/-- a def whose code object has a table -/
theorem funC_of {p : He.Defn} {x qual : Str} {st : Stmt} {fd : FuncData} {kws : List (Str × V)} (F : L2.FunD K x qual (defArgs st) (defBody st) (defScope st) [] kws (fAd K p) fd) : FunC K x qual st (fAd K p) fd (cT K p).1 := by
  obtain ⟨oc, od, dV, kV, doc, pm, an, cdv, ct, osl, e, l, c, hd, _⟩ := F.ex
  rcases hd with ⟨_, e2⟩ | ⟨e2, _⟩
  · subst e2
    obtain ⟨c', rfl⟩ := He.codeIn_ref c
    have z : He.codeOf K p = c' := He.codeOf_eq l (by rw [e])
    have z2 : (cT K p).1 = c' := z
    rw [z2]
    exact ⟨oc, od, kV, doc, pm, an, ct, osl, e, l, c⟩
  · exact absurd rfl e2
theorem init2_of {qual : Str} {C : Addr} {st : Stmt} {a b : Str} {fd : FuncData} (F : L2.Fun K "__init__" qual st (ma K C "__init__") fd) (m : Mk K C (ma K C "__init__")) (hb : Binds K fd ["self", a, b] [])
    (hk : ∀ (s : Shared) (us ws : List Value), us.length = 1 → ws.length = 2 → BindsTo s fd ⟨us, [b, a].zip ws⟩ ((["self", a, b] : List Str).zip (gsw us ws))) : Init2 K qual C st a b :=
  ⟨_, fd, F, m, hb, ⟨fun s us ws _ h1 h2 => hk s us ws h1 h2, fun h g => gsw_rel h g⟩⟩
end
end DL
namespace DL
open L2 PySem PySem.Spec PyProof.Rows
open He (ga ma fAd cT)
def TTof (K : PySem.W.Frag) (tfs : List (He.Defn × Str)) : Tb := tfs.map fun p => ((cT K p.1).2, p.2)
def apartB (K : PySem.W.Frag) (tfs : List (He.Defn × Str)) : Bool := tfs.all fun p => tfs.all fun q => !(decide ((cT K p.1).2 = (cT K q.1).2)) || decide (p.2 = q.2)
theorem makesAt_of {K : PySem.W.Frag} {base : Heap} {mg : Str → Option Value} {tfs : List (He.Defn × Str)} (hn : apartB K tfs = true) (TB : ∀ p ∈ tfs.map (fun p => cT K p.1), LamX.TabB base mg p.1 p.2) {p : He.Defn × Str} (hp : p ∈ tfs) : MakesAt base mg (TTof K tfs) p.2 (cT K p.1).1 :=
  ⟨⟨(cT K p.1).2, TB _ (List.mem_map.mpr ⟨p, hp, rfl⟩), List.mem_map.mpr ⟨p, hp, rfl⟩, fun q hq e => by
    obtain ⟨r, hr, rfl⟩ := List.mem_map.mp hq
    have h1 := List.all_eq_true.mp (List.all_eq_true.mp hn r hr) p hp
    have e' : (cT K r.1).2 = (cT K p.1).2 := e
    simpa [e'] using h1⟩⟩
theorem tabs_of {K : PySem.W.Frag} {H : Hp} {tfs : List (He.Defn × Str)} (hH : ∀ p ∈ tfs.map (fun p => cT K p.1), H p.2 = some (.tbl #[])) : LamX.Tabs (TTof K tfs) H := fun q hq => by
  obtain ⟨r, hr, rfl⟩ := List.mem_map.mp hq
  exact LamX.TabS.nil (hH _ (List.mem_map.mpr ⟨r, hr, rfl⟩))
end DL

/-! lists of one's own: frozen, looked at, popped; while; stores of new lists -/
namespace DL
open L2 PySem PySem.Spec PyProof.Rows
open Evl (Ex ex_l ex_t sz_of)
section
variable {K : PySem.W.Frag} {T : Tb} {S : SA} {E : XK} {Hb H Hb1 H1 Hb2 H2 : Hp} {n n1 n2 : Nat} {te : TE} {FE : DT}
theorem upd_id {H : Hp} {p : Addr} {o : HO} (h : H p = some o) : upd H p o = H := by
  funext b
  by_cases hb : b = p
  · rw [hb, upd_same, h]
  · rw [upd_ne hb]
/-- the list at p counts as frozen -/
theorem frz_world {p : Addr} {vs : List V} (w : World T S Hb H) (h1 : H p = some (.lst vs)) : World T S (upd Hb p (.lst vs)) H :=
  ⟨fun b o e => by
    by_cases hb : b = p
    · rw [hb, upd_same] at e
      rw [hb, h1]
      exact e
    · rw [upd_ne hb] at e
      exact w.ex b o e, w.tabs, fun q hq => by
    obtain ⟨ps, e, _⟩ := w.tabs q hq
    rw [upd_ne (fun z => by rw [z, h1] at e; cases e)]
    exact w.tb q hq, w.sa, w.sl, w.sc, nt_upd w.nt fun _ z => by cases z⟩
theorem frz_st {p : Addr} {vs : List V} (h3 : p ≠ S.a) (h4 : p ≠ S.l) (h5 : p ≠ S.c) (h : StOk K S Hb H n) : StOk K S (upd Hb p (.lst vs)) H n := by
  obtain ⟨g1, g2, ls, cs, m, t, g3, g4, g5, g6, g7, g8, rest⟩ := h
  exact ⟨by rw [upd_ne h3.symm]; exact g1, by rw [upd_ne h4.symm]; exact g2, ls, cs, m, t, g3, g4, g5, g6, g7, by rw [upd_ne h5.symm]; exact g8, rest⟩
theorem frz_slots {ρ : List SV} {σ : L2.St} {i : Nat} {p : Addr} {vs : List V} {xs : List D} (sl : Slots K S Hb H n ρ σ) (ei : ρ[i]? = some (.ol xs)) (es : σ[i]? = some (some (.ref p))) (h1 : H p = some (.lst vs)) (h2 : Hb p = none) (h3 : p ≠ S.a) (h4 : p ≠ S.l) (h5 : p ≠ S.c) (h6 : DnA K Hb vs xs) :
    Slots K S (upd Hb p (.lst vs)) H n (ρ.set i (.d (.lst xs))) σ where
  len := by rw [List.length_set]; exact sl.len
  ok := fun j s e => by
    have ex := Ex.new (o := .lst vs) h2
    by_cases hj : i = j
    · subst hj
      have hl : i < ρ.length := (List.getElem?_eq_some_iff.mp ei).1
      rw [List.getElem?_set_self hl] at e
      cases e
      exact ⟨_, es, .ref p, rfl, .lst (SqL.of upd_same) (h6.up ex)⟩
    · rw [List.getElem?_set_ne hj] at e
      obtain ⟨o, e1, e2⟩ := sl.ok j s e
      refine ⟨o, e1, ?_⟩
      cases s with
      | no => trivial
      | d x =>
        obtain ⟨v, e3, e4⟩ := e2
        exact ⟨v, e3, e4.up ex⟩
      | st => exact ⟨e2.1, frz_st h3 h4 h5 e2.2⟩
      | ol zs =>
        obtain ⟨q, ws, e3, e4, e5, e6, e7, e9, e8⟩ := e2
        have hqp : q ≠ p := fun z => by
          subst z
          exact sl.ap i j q xs zs hj ei e es (by rw [e1, e3])
        exact ⟨q, ws, e3, e4, by rw [upd_ne hqp]; exact e5, e6, e7, e9, e8.up ex⟩
      | me y C ms es2 =>
        obtain ⟨e3, dx, fs, e4, e5, e6, e7, e8, e9, e10⟩ := e2
        exact ⟨e3, dx, fs, e4, by rw [upd_ne (fun z => by rw [z, h1] at e4; cases e4)]; exact e5, e6, e7, e8, e9, e10.up ex⟩
      | od ks es2 =>
        obtain ⟨q, kvs, e3, e4, e5, e6, e7, e8, e9, e10⟩ := e2
        exact ⟨q, kvs, e3, e4, by rw [upd_ne (fun z => by rw [z, h1] at e4; cases e4)]; exact e5, e6, e7, e8, e9, e10.up ex⟩
      | ot ks es2 =>
        obtain ⟨q, kvs, e3, e4, e5, e6, e7, e8, e9, e10⟩ := e2
        exact ⟨q, kvs, e3, e4, by rw [upd_ne (fun z => by rw [z, h1] at e4; cases e4)]; exact e5, e6, e7, e8, e9, e10.up ex⟩
      | fv F =>
        obtain ⟨f, c, e3, e4, e5, e5b, rest⟩ := e2
        have hc : c ≠ p := fun z => by
          rw [z, h1] at e5
          exact codeO_no (o := .lst vs) (fun _ z => by cases z) (Option.some.inj e5)
        exact ⟨f, c, e3, ex _ _ e4, e5, (fun o z => by rw [upd_ne hc] at z; exact e5b o z), rest⟩
  ap := fun j k q ys zs hjk ej ek sj sk => by
    have f : ∀ {m : Nat} {u : List D}, (ρ.set i (.d (.lst xs)))[m]? = some (.ol u) → ρ[m]? = some (.ol u) := fun {m u} e => by
      by_cases hm : i = m
      · subst hm
        have hl : i < ρ.length := (List.getElem?_eq_some_iff.mp ei).1
        rw [List.getElem?_set_self hl] at e
        cases e
      · rw [List.getElem?_set_ne hm] at e
        exact e
    exact sl.ap j k q ys zs hjk (f ej) (f ek) sj sk
/-- from here on the list in slot i is frozen -/
def xsFrz (i : Nat) (G : DTS) : DTS := fun DD ρ n XP => slotO ρ i fun xs => G DD (ρ.set i (.d (.lst xs))) n XP
theorem rds_frz {i : Nat} {t : TS} {G : DTS} (h1 : RdS K T S E t G) : RdS K T S E t (xsFrz i G) := fun σ ρ Hb0 H0 n0 Hb H n DD XP D a sl h q x => by
  obtain ⟨xs, p, vs, e, es, e3, e4, e5, e6, e8, e7, h⟩ := sl.sl.own h
  have f0 : Fresh H0 p := sl.fr i _ p e rfl es
  have a' := a.freeze (o := .lst vs) f0 e4 (by rw [e3]; exact fun z => by cases z) (fun ps z => by rw [e3] at z; cases z) (fun c u z => by rw [e3] at z; exact codeO_no (o := .lst vs) (fun _ z => by cases z) (Option.some.inj z)) e5 e6 e8
  rw [upd_id e3] at a'
  refine h1 σ _ Hb0 H0 n0 _ H n DD XP D a' ⟨frz_slots sl.sl e es e3 e4 e5 e6 e8 e7, fun j s r ej eo sj => ?_⟩ h (q.up (Ex.new e4)) x
  by_cases hj : i = j
  · subst hj
    have hl : i < ρ.length := (List.getElem?_eq_some_iff.mp e).1
    rw [List.getElem?_set_self hl] at ej
    cases ej
    cases eo
  · rw [List.getElem?_set_ne hj] at ej
    exact sl.fr j s r ej eo sj
/-- a step from where the list at p counts as frozen, told from where it does not -/
theorem Stp.unview {p : Addr} {vs : List V} {Hb' H' : Hp} {n' : Nat} (h1 : H p = some (.lst vs)) (h2 : Hb p = none) (h3 : p ≠ S.a) (h4 : p ≠ S.l) (h5 : p ≠ S.c) (s : Stp K T S (upd Hb p (.lst vs)) H n Hb' H' n') :
    Stp K T S Hb H n (fun b => if b = p then none else Hb' b) H' n' where
  ex := fun b u e => by
    have hb : b ≠ p := fun z => by rw [z, h2] at e; cases e
    show (if b = p then none else Hb' b) = some u
    rw [if_neg hb]
    exact s.ex b u (by rw [upd_ne hb]; exact e)
  wd := by
    have g : ∀ {b : Addr} {o : HO}, (if b = p then none else Hb' b) = some o → Hb' b = some o := fun {b o} e => by
      by_cases hb : b = p
      · rw [if_pos hb] at e; cases e
      · rw [if_neg hb] at e; exact e
    refine ⟨fun b o e => s.wd.ex b o (g e), s.wd.tabs, fun q hq => ?_, s.wd.sa, s.wd.sl, s.wd.sc, fun b ps z => s.wd.nt b ps (g z)⟩
    show (if q.1 = p then none else Hb' q.1) = none
    by_cases hb : q.1 = p
    · rw [if_pos hb]
    · rw [if_neg hb]; exact s.wd.tb q hq
  st := fun h0 => by
    obtain ⟨g1, g2, ls, cs, m, t, g3, g4, g5, g6, g7, g8, rest⟩ := s.st (frz_st h3 h4 h5 h0)
    refine ⟨?_, ?_, ls, cs, m, t, g3, g4, g5, g6, g7, ?_, rest⟩
    · show (if S.a = p then none else Hb' S.a) = none
      rw [if_neg h3.symm]; exact g1
    · show (if S.l = p then none else Hb' S.l) = none
      rw [if_neg h4.symm]; exact g2
    · show (if S.c = p then none else Hb' S.c) = _
      rw [if_neg h5.symm]; exact g8
  own := fun q o e1 e2 e3 e4 e5 => by
    by_cases hq : q = p
    · subst hq
      rw [h1] at e1
      cases e1
      exact ⟨s.wd.ex _ _ (s.ex _ _ upd_same), if_pos rfl⟩
    · obtain ⟨g1, g2⟩ := s.own q o e1 (by rw [upd_ne hq]; exact e2) e3 e4 e5
      exact ⟨g1, by show (if q = p then none else Hb' q) = none; rw [if_neg hq]; exact g2⟩
  dm := s.dm
theorem Dn.flat {v : V} {d : D} (h : Dn K Hb v d) (f : flatD d = true) : Dn K Hb1 v d := by
  cases h with
  | non => exact .non
  | bl b => exact .bl b
  | int i => exact .int i
  | str x => exact .str x
  | _ => cases f
/-- a list of one's own looked at by an expression whose value holds no object -/
def xView (i : Nat) (F : DT) : DT := fun ρ n P _ => slotO ρ i fun xs => F (ρ.set i (.d (.lst xs))) n (fun d n1 => flatD d = true ∧ P d n1) xF
theorem rd_view {i : Nat} (h1 : DL.Rd K T S E te FE) : DL.Rd K T S E te (xView i FE) := fun σ ρ Hb H n P XP Q w sl h q x => by
  obtain ⟨xs, p, vs, e, es, e3, e4, e5, e6, e8, e7, h⟩ := sl.own h
  exact h1 σ _ _ H n _ xF _ (frz_world w e3) (frz_slots sl e es e3 e4 e5 e6 e8 e7) h (fun d v n' Hb' H' s hd pp => q d v n' _ H' (s.unview e3 e4 e5 e6 e8) (hd.flat pp.1) pp.2) .none
def xtView (i : Nat) (F : DTT) : DTT := fun ρ n P _ => slotO ρ i fun xs => F (ρ.set i (.d (.lst xs))) n P xF
theorem rdt_view {i : Nat} {tt : TT} {F : DTT} (h1 : RdT K T S E tt F) : RdT K T S E tt (xtView i F) := fun σ ρ Hb H n P XP Q w sl h q x => by
  obtain ⟨xs, p, vs, e, es, e3, e4, e5, e6, e8, e7, h⟩ := sl.own h
  exact h1 σ _ _ H n _ xF _ (frz_world w e3) (frz_slots sl e es e3 e4 e5 e6 e8 e7) h (fun b n' Hb' H' s pp => q b n' _ H' (s.unview e3 e4 e5 e6 e8) pp) .none

/-! ### while -/
def xsWhile (F : DTT) (B : DTS) : DTS := fun DD ρ n XP => ∃ I : Nat → List SV → Nat → Prop, (∃ m, I m ρ n) ∧ ∀ m ρ n, I m ρ n →
  F ρ n (fun b n1 => match b with
    | true => B { DD with nx := fun ρ' n' => ∃ m', m' < m ∧ I m' ρ' n', ct := fun ρ' n' => ∃ m', m' < m ∧ I m' ρ' n', bk := DD.nx } ρ n1 XP
    | false => DD.nx ρ n1) XP
theorem rds_while {c : TT} {tb : TS} {F : DTT} {B : DTS} (hc : RdT K T S E c F) (hb : RdS K T S E tb B) : RdS K T S E (tWhile c tb) (xsWhile F B) := fun σ ρ Hb0 H0 n0 Hb H n DD XP D a sl h q x => by
  obtain ⟨I, ⟨m0, i0⟩, it⟩ := h
  refine ⟨fun m σ2 H2 => ∃ ρ2 n2 Hb2, Ex Hb Hb2 ∧ Stp K T S Hb0 H0 n0 Hb2 H2 n2 ∧ Sl0 K S H0 Hb2 H2 n2 ρ2 σ2 ∧ I m ρ2 n2, ⟨m0, ρ, n, Hb, Ex.refl _, a, sl, i0⟩, ?_⟩
  rintro m σ2 H2 ⟨ρ2, n2, Hb2, e2, s2, sl2, hI⟩
  refine hc σ2 ρ2 Hb2 H2 n2 _ XP _ s2.wd sl2.sl (it m ρ2 n2 hI) (fun b n3 Hb3 H3 s3 p3 => ?_) (x.step s2)
  cases b with
  | false => exact iteF (q.nx ρ2 σ2 n3 Hb3 H3 (e2.trans s3.ex) (s2.trans s3) (sl2.step s3) p3)
  | true =>
    have e3 := e2.trans s3.ex
    refine iteT ⟨fun σ' H' => ∃ m', m' < m ∧ ∃ ρ' n' Hb', Ex Hb Hb' ∧ Stp K T S Hb0 H0 n0 Hb' H' n' ∧ Sl0 K S H0 Hb' H' n' ρ' σ' ∧ I m' ρ' n', fun σ' H' ⟨m', h1, h2⟩ => ⟨m', h1, h2⟩, ?_⟩
    exact hb σ2 ρ2 Hb0 H0 n0 Hb3 H3 n3 _ XP _ (s2.trans s3) (sl2.step s3) p3 ⟨fun ρ4 σ4 n4 Hb4 H4 e4 s4 sl4 ⟨m', h1, h2⟩ => ⟨m', h1, ρ4, n4, Hb4, e3.trans e4, s4, sl4, h2⟩, q.rt, q.nx.up e3, fun ρ4 σ4 n4 Hb4 H4 e4 s4 sl4 ⟨m', h1, h2⟩ => ⟨m', h1, ρ4, n4, Hb4, e3.trans e4, s4, sl4, h2⟩⟩ x

/-! ### new lists -/
def xnNil : DTL := fun _ n P _ => P [] n
theorem rdn_nil : RdN K T S E (tLst tNil) xnNil := fun σ ρ Hb H n P XP Q w sl h q x => by
  refine ⟨Nat.zero_le _, fun a hp => ?_⟩
  exact q [] a [] n Hb (upd H a (.lst [])) (.newO w hp) (fresh_none hp) upd_same (free_of w.ex hp) .nil h
def xnLst (G : DTA) : DTL := fun ρ n P XP => G ρ n (fun ss n1 => ∃ ds, allD ss = some ds ∧ ds.length ≤ 100000 ∧ P ds n1) XP
theorem rdn_lst {ta : TA} {G : DTA} (h1 : RdA K T S E ta G) : RdN K T S E (tLst ta) (xnLst G) := fun σ ρ Hb H n P XP Q w sl h q x =>
  h1 σ ρ Hb H n _ XP _ w sl h (fun ss vs n1 Hb1 H1 s ha p => by
    obtain ⟨ds, e, hl, p⟩ := p
    have hd := ha.allD e
    refine ⟨sz_of (by rw [hd.len]; exact hl), fun a hp => ?_⟩
    exact q ds a vs n1 Hb1 _ (s.trans (.newO s.wd hp)) (s.dm a (fresh_none hp)) upd_same (free_of s.wd.ex hp) hd p) x
def xnList (F : DT) : DTL := fun ρ n P XP => F ρ n (fun d n1 => seqD d fun xs => P xs n1) XP
theorem rdn_list (h1 : DL.Rd K T S E te FE) : RdN K T S E (tCB (rListU K) (tCons te tNil)) (xnList FE) := fun σ ρ Hb H n P XP Q w sl h q x =>
  h1 σ ρ Hb H n _ XP _ w sl h (fun d v n1 Hb1 H1 s hd p => by
    cases hd with
    | @lst a vs ds g1 g2 => exact ⟨a, vs, rfl, .inl (ex_l s.wd.ex g1), fun l hp => q ds l vs n1 Hb1 _ (s.trans (.newO s.wd hp)) (s.dm l (fresh_none hp)) upd_same (free_of s.wd.ex hp) g2 p⟩
    | @tup a vs ds g1 g2 => exact ⟨a, vs, rfl, .inr (ex_t s.wd.ex g1), fun l hp => q ds l vs n1 Hb1 _ (s.trans (.newO s.wd hp)) (s.dm l (fresh_none hp)) upd_same (free_of s.wd.ex hp) g2 p⟩
    | _ => exact p.elim) x
/-- list(xs), xs of one's own -/
def xnListO (i : Nat) : DTL := fun ρ n P _ => slotO ρ i fun xs => P xs n
theorem rdn_listO {i : Nat} : RdN K T S E (tCB (rListU K) (tCons (tVar i) tNil)) (xnListO i) := fun σ ρ Hb H n P XP Q w sl h q x => by
  obtain ⟨xs, p, vs, e, es, e3, e4, e5, e6, e8, e7, h⟩ := sl.own h
  exact ⟨.ref p, es, p, vs, rfl, .inl (SqL.of e3), fun l hp => q xs l vs n Hb _ (.newO w hp) (fresh_none hp) upd_same (free_of w.ex hp) e7 h⟩
/-- data, or a new list of one's own -/
def MOk (K : PySem.W.Frag) (H0 Hb H : Hp) : SV → V → Prop
  | .d d, v => Dn K Hb v d
  | .ol xs, v => ∃ p vs, v = .ref p ∧ Fresh H0 p ∧ H p = some (.lst vs) ∧ Hb p = none ∧ DnA K Hb vs xs
  | _, _ => False
abbrev DTM := List SV → Nat → (SV → Nat → Prop) → DX → Prop
def RdM (K : PySem.W.Frag) (T : Tb) (S : SA) (E : XK) (te : TE) (F : DTM) : Prop :=
  ∀ σ ρ Hb H n P XP (Q : VK), World T S Hb H → Slots K S Hb H n ρ σ → F ρ n P XP → (∀ s v n' Hb' H', Stp K T S Hb H n Hb' H' n' → MOk K H Hb' H' s v → P s n' → Q v H') → XOk K T S Hb H n XP E → te σ H Q
def xmD (F : DT) : DTM := fun ρ n P XP => F ρ n (fun d n1 => P (.d d) n1) XP
def xmN (F : DTL) : DTM := fun ρ n P XP => F ρ n (fun xs n1 => P (.ol xs) n1) XP
theorem rdm_d (h1 : DL.Rd K T S E te FE) : RdM K T S E te (xmD FE) := fun σ ρ Hb H n P XP Q w sl h q x =>
  h1 σ ρ Hb H n _ XP _ w sl h (fun d v n1 Hb1 H1 s hd p => q (.d d) v n1 Hb1 H1 s hd p) x
theorem rdm_n {F : DTL} (h1 : RdN K T S E te F) : RdM K T S E te (xmN F) := fun σ ρ Hb H n P XP Q w sl h q x =>
  h1 σ ρ Hb H n _ XP _ w sl h (fun xs p vs n1 Hb1 H1 s hp e1 e2 hd pp => q (.ol xs) _ n1 Hb1 H1 s ⟨p, vs, rfl, hp, e1, e2, hd⟩ pp) x
theorem MOk.step {H0 : Hp} {s : SV} {v : V} (m : MOk K H0 Hb H s v) (w0 : World T S Hb1 H0) (a : Stp K T S Hb H n Hb2 H2 n2) : MOk K H0 Hb2 H2 s v := by
  cases s with
  | d d => exact Dn.up a.ex m
  | ol xs =>
    obtain ⟨p, vs, rfl, hp, e1, e2, hd⟩ := m
    obtain ⟨m1, m2, m3⟩ := w0.nS hp
    obtain ⟨g1, g2⟩ := a.own p _ e1 e2 m1 m2 (fun ps z => by cases z)
    exact ⟨p, vs, rfl, hp, g1, g2, hd.up a.ex⟩
  | _ => exact m.elim
/-- a slot gets data or a new list -/
theorem Sl0.setM {Hb0 H0 Ha Hc : Hp} {n0 m : Nat} {ρ : List SV} {σ : L2.St} {i : Nat} {s : SV} {v : V} (a : Stp K T S Hb0 H0 n0 Hc Ha m) (sl : Sl0 K S H0 Hb H n ρ σ) (h : MOk K Ha Hb H s v) (ha : ∀ (j : Nat) (ys : List D) (p : Addr), ρ[j]? = some (.ol ys) → σ[j]? = some (some (.ref p)) → v = .ref p → isOwn s = true → False) :
    Sl0 K S H0 Hb H n (ρ.set i s) (σ.set i (some v)) := by
  cases s with
  | d d => exact sl.set h
  | ol xs =>
    obtain ⟨p, vs, rfl, hp, e1, e2, hd⟩ := h
    obtain ⟨m1, m2, m3⟩ := a.wd.nS hp
    refine ⟨sl.sl.setO e1 e2 m1 m2 m3 hd fun j ys ej sj => ha j ys p ej sj rfl rfl, fun j xs r ej eo sj => ?_⟩
    by_cases hj : i = j
    · subst hj
      have hl : i < ρ.length := by
        have := (List.getElem?_eq_some_iff.mp ej).1
        rwa [List.length_set] at this
      rw [List.getElem?_set_self (by rw [← sl.sl.len]; exact hl)] at sj
      have er : p = r := V.ref.inj (Option.some.inj (Option.some.inj sj))
      rw [← er]
      exact a.dm p hp
    · rw [List.getElem?_set_ne hj] at ej sj
      exact sl.fr j xs r ej eo sj
  | _ => exact h.elim
/-- nobody's list is the new one -/
theorem MOk.apart {Ha : Hp} {ρ : List SV} {σ : L2.St} {Hc : Hp} {m : Nat} {s : SV} {v : V} (sl : Slots K S Hc Ha m ρ σ) (h : MOk K Ha Hb H s v) : ∀ (j : Nat) (ys : List D) (p : Addr), ρ[j]? = some (.ol ys) → σ[j]? = some (some (.ref p)) → v = .ref p → isOwn s = true → False := fun j ys p ej sj ev eo => by
  cases s with
  | d d => cases eo
  | ol xs =>
    obtain ⟨r, vs, rfl, hp, e1, e2, hd⟩ := h
    cases ev
    obtain ⟨o, g1, q, ws, g2, g3, _⟩ := sl.ok j _ ej
    rw [g1, g2] at sj
    have er : q = p := V.ref.inj (Option.some.inj (Option.some.inj sj))
    rw [er] at g3
    exact absurd rfl (hp.ne g3 fun _ z => by cases z)
  | _ => exact h.elim
/-- a, b = e1, e2: data or new lists -/
def xsParM (i j : Nat) (F G : DTM) : DTS := fun DD ρ n XP => F ρ n (fun s n1 => G ρ n1 (fun t n2 => DD.nx ((ρ.set i s).set j t) n2) XP) XP
theorem rds_parM {i j : Nat} {te2 : TE} {F G : DTM} (h1 : RdM K T S E te F) (h2 : RdM K T S E te2 G) : RdS K T S E (tPar i j (tCons te (tCons te2 tNil))) (xsParM i j F G) := fun σ ρ Hb0 H0 n0 Hb H n DD XP D a sl h q x =>
  h1 σ ρ Hb H n _ XP _ a.wd sl.sl h (fun s v n1 Hb1 H1 s1 m1 p => h2 σ ρ Hb1 H1 n1 _ XP _ s1.wd (sl.step s1).sl p (fun t u n2 Hb2 H2 s2 m2 p2 => by
    have m1' := m1.step a.wd s2
    have sl2 := (sl.step s1).step s2
    refine ⟨v, u, rfl, q.nx _ _ n2 Hb2 H2 (s1.ex.trans s2.ex) ((a.trans s1).trans s2) (Sl0.setM (a.trans s1) (Sl0.setM a sl2 m1' (m1.apart sl.sl)) m2 fun k ys r ek sk ev eo => ?_) p2⟩
    -- the second list is not the first one
    by_cases hk : i = k
    · subst hk
      have hl : i < ρ.length := by
        have := (List.getElem?_eq_some_iff.mp ek).1
        rwa [List.length_set] at this
      rw [List.getElem?_set_self hl] at ek
      rw [List.getElem?_set_self (by rw [← sl.sl.len]; exact hl)] at sk
      cases ek
      obtain ⟨r', ws, e0, hp, e1, e2, hd⟩ := m1
      subst e0
      have er : r' = r := V.ref.inj (Option.some.inj (Option.some.inj sk))
      subst er
      cases t with
      | d d => cases eo
      | ol zs =>
        obtain ⟨r2, us, e0, hp2, _⟩ := m2
        rw [ev] at e0
        cases e0
        exact absurd rfl (hp2.ne e1 fun _ z => by cases z)
      | _ => exact m2.elim
    · rw [List.getElem?_set_ne hk] at ek sk
      exact m2.apart (sl.step s1).sl k ys r ek sk ev eo) (((x.step a).step s1))) (x.step a)

/-! ### pops -/
/-- x = xs.pop(e), xs of one's own -/
def xsSetPop (i j : Nat) (F : DT) : DTS := fun DD ρ n XP => slotO ρ j fun xs => F ρ n (fun d n1 => match d with
  | .int k => ∃ (m : Nat) (y : D), k = (m : Int) ∧ m < 2 ^ 62 ∧ xs[m]? = some y ∧ DD.nx ((ρ.set j (.ol (xs.eraseIdx m))).set i (.d y)) n1
  | _ => False) XP
theorem DnA.erase : ∀ (m : Nat) {vs : List V} {ds : List D}, DnA K H vs ds → DnA K H (vs.eraseIdx m) (ds.eraseIdx m)
  | _, _, _, .nil => by simp; exact .nil
  | 0, _, _, .cons h1 h2 => by simpa using h2
  | m + 1, _, _, .cons h1 h2 => by simpa using DnA.cons h1 (DnA.erase m h2)
theorem pop_ix {m l : Nat} (h : m < l) : seqIndex? (m : Int) l = some m := by
  have h0 : (0 : Int) ≤ (m : Int) := Int.natCast_nonneg m
  have h1 : (m : Int) < (l : Int) := by omega
  rw [PySem.seqIndex_of h0 h1]
  simp
theorem rds_setPop {i j : Nat} (h1 : DL.Rd K T S E te FE) : RdS K T S E (tAsg (tBM K "list" rPopAt (tVar j) (tCons te tNil)) (gName i)) (xsSetPop i j FE) := fun σ ρ Hb0 H0 n0 Hb H n DD XP D a sl h q x => by
  obtain ⟨xs, p, vs, e, es, e3, e4, e5, e6, e8, e7, h⟩ := sl.sl.own h
  refine ⟨.ref p, es, .inl ⟨rfl, vs, SqL.of e3⟩, ?_⟩
  refine h1 σ ρ Hb H n _ XP _ a.wd sl.sl h (fun d v n1 Hb1 H1 s hd pp => ?_) (x.step a)
  obtain ⟨g1, g2⟩ := s.own p _ e3 e4 e5 e6 (fun ps z => by cases z)
  have h7 := e7.up s.ex
  cases hd with
  | int k =>
    obtain ⟨m, y, rfl, hm, hy, pp⟩ := pp
    obtain ⟨u, eu, hu⟩ := h7.get hy
    have hml : m < vs.length := (List.getElem?_eq_some_iff.mp eu).1
    refine ⟨p, vs, _, m, u, rfl, rfl, g1, by omega, by omega, pop_ix hml, eu, ?_⟩
    have z := own_stmt (us := vs.eraseIdx m) (ys := xs.eraseIdx m) (DD := { nx := fun ρ' n' => DD.nx (ρ'.set i (.d y)) n', rt := DD.rt, bk := DD.bk, ct := DD.ct }) (D := { D with nx := fun σ' H' => D.nx (σ'.set i (some u)) H' }) (a.trans s) (sl.step s) ⟨fun ρ' σ' n' Hb' H' e' s' sl' p' => ?_, q.rt, q.bk.up s.ex, q.ct.up s.ex⟩ e es g1 g2 e5 e6 e8 (DnA.erase m h7) pp
    · exact z
    · exact q.nx _ _ n' Hb' H' (s.ex.trans e') s' (sl'.set (hu.up e')) p'
  | _ => exact pp.elim
/-- ys.append(xs.pop(e)), both of one's own -/
def xsAppPop (i j : Nat) (F : DT) : DTS := fun DD ρ n XP => i ≠ j ∧ slotO ρ i fun ys => slotO ρ j fun xs => F ρ n (fun d n1 => match d with
  | .int k => ∃ (m : Nat) (y : D), k = (m : Int) ∧ m < 2 ^ 62 ∧ xs[m]? = some y ∧ ys.length < 100000 ∧ DD.nx ((ρ.set j (.ol (xs.eraseIdx m))).set i (.ol (ys ++ [y]))) n1
  | _ => False) XP
theorem rds_appPop {i j : Nat} (h1 : DL.Rd K T S E te FE) : RdS K T S E (tDrop (tBM K "list" rAppend (tVar i) (tCons (tBM K "list" rPopAt (tVar j) (tCons te tNil)) tNil))) (xsAppPop i j FE) := fun σ ρ Hb0 H0 n0 Hb H n DD XP D a sl h q x => by
  obtain ⟨hij, h⟩ := h
  obtain ⟨ys, r, ws, f, fs, f3, f4, f5, f6, f8, f7, h⟩ := sl.sl.own h
  obtain ⟨xs, p, vs, e, es, e3, e4, e5, e6, e8, e7, h⟩ := sl.sl.own h
  have hrp : r ≠ p := fun z => by
    subst z
    exact sl.sl.ap i j r ys xs hij f e fs es
  refine ⟨.ref r, fs, .inl ⟨rfl, ws, SqL.of f3⟩, ?_⟩
  refine ⟨.ref p, es, .inl ⟨rfl, vs, SqL.of e3⟩, ?_⟩
  refine h1 σ ρ Hb H n _ XP _ a.wd sl.sl h (fun d v n1 Hb1 H1 s hd pp => ?_) (x.step a)
  obtain ⟨g1, g2⟩ := s.own p _ e3 e4 e5 e6 (fun ps z => by cases z)
  obtain ⟨k1, k2⟩ := s.own r _ f3 f4 f5 f6 (fun ps z => by cases z)
  have h7 := e7.up s.ex
  have j7 := f7.up s.ex
  cases hd with
  | int k =>
    obtain ⟨m, y, rfl, hm, hy, hl, pp⟩ := pp
    obtain ⟨u, eu, hu⟩ := h7.get hy
    have hml : m < vs.length := (List.getElem?_eq_some_iff.mp eu).1
    refine ⟨p, vs, _, m, u, rfl, rfl, g1, by omega, by omega, pop_ix hml, eu, ?_⟩
    have z := own_stmt (us := vs.eraseIdx m) (ys := xs.eraseIdx m) (DD := { nx := fun ρ' n' => ρ' = ρ.set j (.ol (xs.eraseIdx m)) ∧ n' = n1, rt := DD.rt, bk := DD.bk, ct := DD.ct })
      (D := { D with nx := fun σ' H' => σ' = σ ∧ H' = upd H1 p (.lst (vs.eraseIdx m)) → rAppend (.ref r) [u] H' fun _ H2 => D.nx σ H2 }) (a.trans s) (sl.step s) ⟨fun ρ' σ' n' Hb' H' e' s' sl' p' e9 => ?_, q.rt, q.bk.up s.ex, q.ct.up s.ex⟩ e es g1 g2 e5 e6 e8 (DnA.erase m h7) ⟨rfl, rfl⟩ ⟨rfl, rfl⟩
    · exact z
    · obtain ⟨rfl, rfl⟩ := e9
      obtain ⟨rfl, rfl⟩ := p'
      have hk : upd H1 p (.lst (vs.eraseIdx m)) r = some (.lst ws) := by rw [upd_ne hrp]; exact k1
      have ei : (ρ.set j (.ol (xs.eraseIdx m)))[i]? = some (.ol ys) := by rw [List.getElem?_set_ne (Ne.symm hij)]; exact f
      have hbr : Hb' r = none := by
        obtain ⟨o, g1', r', ws', g2', g3', g4', _⟩ := sl'.sl.ok i _ ei
        rw [fs] at g1'
        cases g1'
        cases g2'
        exact g4'
      refine ⟨r, ws, u, rfl, rfl, hk, Evl.sz_lt (by rw [j7.len]; exact hl), ?_⟩
      exact own_stmt s' sl' (q.up (s.ex.trans e')) ei fs hk hbr f5 f6 f8 ((j7.up e').app (.one (hu.up e'))) pp
  | _ => exact pp.elim
/-- return xs, xs of one's own -/
theorem rds_retO {i : Nat} : RdS K T S E (tRet (tVar i)) (xsFrz i (xsRet (xVar i))) := rds_frz (rds_ret rd_var)
end
end DL

/-! enumerate of a tuple -/
namespace RZ
open PySem PySem.Spec PyProof.Rows L2
open AutoSeq1 (wpAny_loadPart')
set_option maxHeartbeats 1000000 in
theorem meets_enumT (l : Addr) (items : Array Value) (o : Obj) (hc : o.cls = .type "tuple") (hd : ∃ n, o.data = .seq items n) :
    Meets (Builtin.«enumerate.__new__» ⟨[.type "enumerate", .ref l], []⟩) (fun _ R s => s.heap.get? l = some o ∧
      R (.ok (.ret (.ref (s.heap.push { cls := .type "tuple_iterator", data := .fields #[.ref l, .int 0 0] }).objs.size)))
        { s with heap := (s.heap.push { cls := .type "tuple_iterator", data := .fields #[.ref l, .int 0 0] }).push { cls := .type "enumerate", data := .fields #[.none, .bool false, .ref s.heap.objs.size, rawInt 0, .none, .none] } }) :=
  .of_wp fun prog w A R s h => by
    obtain ⟨oc, dct, dt, sl⟩ := o
    obtain ⟨n, hd⟩ := hd
    dsimp only at hc hd
    subst hc hd
    obtain ⟨hp, g, d, tk, os⟩ := s
    obtain ⟨hl, h⟩ := h
    have hsub := sub_enumerate
    have hL : Heap.IsTuple (Shared.heap ⟨hp, g, d, tk, os⟩) l items := ⟨_, hl, rfl, n, rfl⟩
    wp_walk using wpAny_loadPart' hl
    refine wpAny_stack_any fun st => wpAny_pure ?_
    split
    · rename_i c _ _ _ _ _
      cases (c == Value.type "enumerate") <;> (wp_walk using wpAny_loadPart' hl, wpAny_pyIter_tuple hL; exact ⟨_, rfl, h⟩)
    · wp_walk using wpAny_loadPart' hl, wpAny_pyIter_tuple hL
      exact ⟨_, rfl, h⟩
section
variable {prog : Program} {w : World} {A : Around} {E : Value → Shared → Prop} {s : Shared}
theorem call_enumT {l : Addr} {items : Array Value} {Q : Value → Shared → Prop} (hL : s.heap.IsTuple l items)
    (h : ∀ h', IsEnum h' (s.heap.objs.size + 1) s.heap.objs.size 0 .none → h'.IsTupleIter s.heap.objs.size l 0 → h'.objs.size = s.heap.objs.size + 2 →
      (∀ b o, s.heap.get? b = some o → h'.get? b = some o) → Q (.ref (s.heap.objs.size + 1)) { s with heap := h' }) :
    wpAny (model prog w) A (call (.type "enumerate") [.ref l]) Q E s := by
  obtain ⟨o, hl, hc, hd⟩ := hL
  refine callType_new F.called_enumerate (by decide) (F.typeCall_enumerate_1 _) (F.newCall_enumerate_1 _) (fun obj => F.args_object_init_2 obj _) F.entry_enumerate_new
    (meets_enumT l items o hc hd) ⟨hl, ?_⟩
  have hz : (s.heap.push { cls := .type "tuple_iterator", data := .fields #[.ref l, .int 0 0] }).objs.size = s.heap.objs.size + 1 := Heap.size_push ..
  show _ ∧ _
  rw [hz]
  have he : IsEnum ((s.heap.push { cls := .type "tuple_iterator", data := .fields #[.ref l, .int 0 0] }).push
      { cls := .type "enumerate", data := .fields #[.none, .bool false, .ref s.heap.objs.size, rawInt 0, .none, .none] }) (s.heap.objs.size + 1) s.heap.objs.size 0 .none := by
    have z := Heap.get?_push_size (s.heap.push { cls := .type "tuple_iterator", data := .fields #[.ref l, .int 0 0] })
      (o := { cls := .type "enumerate", data := .fields #[.none, .bool false, .ref s.heap.objs.size, rawInt 0, .none, .none] }) rfl
    rw [hz] at z
    exact z
  exact ⟨⟨_, he, rfl⟩, h _ he ⟨_, Heap.get?_push_of_some _ (Heap.get?_push_size _ rfl), rfl, rfl⟩ (by rw [Heap.size_push, hz]) fun b o x => Heap.get?_push_of_some _ (Heap.get?_push_of_some _ x)⟩
end
/-- the tuple at a, each item in a new pair -/
def IteT (K : PySem.W.Frag) (a : Addr) : It :=
  ⟨fun i H => ∃ (xs : List V) (x : V), SqT K H a xs ∧ xs[i]? = some x, fun i H v H' => ∃ T x, v = .ref T ∧ H T = none ∧ H' = upd H T (.tup [.int (i : Nat), x]) ∧ ∀ xs, SqT K H a xs → xs[i]? = some x, fun i H => ∃ xs : List V, SqT K H a xs ∧ xs.length ≤ i⟩
theorem turn_enumT {P : Program} {w : World} {K : PySem.W.Frag} {elts : List Expr} {kk : Nat} {tpos : Pos} (a e it : Addr) :
    Turn P w K (.Tuple elts kk tpos) (IteT K a) [e, it] e (fun i h => (∃ old, IsEnum h e it ((i : Nat) : Int) old) ∧ h.IsTupleIter it a i ∧ e ≠ it ∧ e ≠ a ∧ a ≠ it) where
  mem := by simp
  obj := fun i h st b hb => by
    obtain ⟨⟨old, he⟩, ⟨o, ho, hc, hd⟩, _⟩ := st
    rcases List.mem_cons.mp hb with z | hb
    · rw [z]; exact ⟨_, he, fun v q => nomatch q⟩
    · rw [List.mem_singleton.mp hb]; exact ⟨o, ho, fun v q => by rw [hd] at q; cases q⟩
  keep := fun i h h' st k => let ⟨⟨old, he⟩, hi, hne⟩ := st; ⟨⟨old, k e (by simp) _ he⟩, hi.at fun o q => k it (by simp) o q, hne⟩
  item := by
    intro X hP hw hK hc i pins s σ H E I hf st hg
    subst hP hw hK
    obtain ⟨⟨old, he⟩, hit, hne, hea, hai⟩ := st
    obtain ⟨xs, x, hq, hx⟩ := hg
    obtain ⟨its, rv, p, hz⟩ := I.tuple hq
    obtain ⟨u, hu, ru⟩ := rv.get hx
    have hu' : its.toArray[i]? = some u := by simpa using hu
    have hel : e < s.heap.objs.size := Heap.lt_size he
    have hil : it < s.heap.objs.size := by obtain ⟨_, q, _⟩ := hit; exact Heap.lt_size q
    have hlt : i < its.toArray.size := (Array.getElem?_eq_some_iff.mp hu').1
    have hd : X.A.in1.handled = none := I.ok.hd hc
    refine wpAny_pyNext_enum_itemC (A := X.A) (Draws.tuple (prog := X.prog) (w := X.w) (A := X.A.in1) hd it a hai its.toArray) he ⟨hit, p⟩ hlt hne (by simp [hne, hea]) fun u' h' tk hP ho hit' hT hsz hk => ?_
    have eu : u' = u := by
      have z : its.toArray[i]? = some u' := hP
      rw [hu'] at z
      exact (Option.some.inj z).symm
    subst eu
    refine ⟨_, rfl, wpAny_letOwnedTupleGo_enum (s := { s with heap := h', toks := tk + 1 }) ho fun h'' he' sb => ?_⟩
    have hT2 : h''.get? s.heap.objs.size = some { cls := .type "tuple", data := .seq #[.int i tk, u'] } := (sb.2 _ (Nat.ne_of_gt hel)).trans hT
    have new : ObjOk X.prog X.w (upd H s.heap.objs.size (.tup [.int (i : Nat), x])) h'' s.heap.objs.size (.tup [.int (i : Nat), x]) :=
      ⟨by show 2 ≤ sizeLine; decide, [.int i tk, u'], .cons ⟨_, rfl⟩ (.cons ru .nil), ⟨_, hT2, rfl, _, rfl⟩⟩
    have I1 : Inv X pins σ (upd H s.heap.objs.size (.tup [.int (i : Nat), x])) { s with heap := h'', toks := tk + 1 } :=
      I.turnedNew (ch := [e, it]) (fun b ob hb q => (sb.2 b (fun z => hb (by simp [z]))).trans (hk b ob (fun z => hb (by simp [z])) (fun z => hb (by simp [z])) q)) hf (Nat.le_refl _) new
    refine ⟨.ref s.heap.objs.size, _, I1, rfl, ⟨_, x, rfl, I.hok.fresh (Nat.le_refl _), rfl, fun ys hy => by rw [I.tuple_inj hy hq]; exact hx⟩, ⟨⟨u', ?_⟩, hit'.1.at fun o q => (sb.2 it (Ne.symm hne)).trans q, hne, hea, hai⟩, fun b hb => ?_⟩
    · have e1 : ((i + 1 : Nat) : Int) = (i : Int) + 1 := by omega
      rw [e1]; exact he'
    · have hb' : b < s.heap.objs.size := by
        rcases List.mem_cons.mp hb with z | hb
        · rw [z]; exact hel
        · rw [List.mem_singleton.mp hb]; exact hil
      rw [upd_ne (Nat.ne_of_lt hb')]
      exact (hf b hb).1
  done := by
    intro X hP hw hK hc i pins s σ H E I hf st hg
    subst hP hw hK
    obtain ⟨⟨old, he⟩, hit, hne, hea, hai⟩ := st
    obtain ⟨xs, hq, hx⟩ := hg
    obtain ⟨its, rv, p, hz⟩ := I.tuple hq
    obtain ⟨f0, f1, f2, f3, f4, f5⟩ := hf it (by simp)
    have hl := rv.length
    have hT : s.TypeIs (.ref e) "enumerate" := ⟨_, he, rfl⟩
    have hd : X.A.handled = none := I.ok.hd hc
    unfold pyNext
    refine wpAny_bind (wpAny_attempt (wpAny_callSpecial?_slot (name := Str.ofString "__next__") hT F.slot_enumerate_next
      (wpAny_call_entry F.slot_enumerate_next hT F.entry_enumerate_next ?_ (F.args_enumerate_next_1 _))))
    show wpAny _ _ (field (.ref e) 2 >>= _) _ _ _
    refine wpAny_bind (wpAny_field he rfl (x := .ref it) rfl ?_)
    show wpAny _ _ (Builtin.SmallTypes.nextOf (.ref it) >>= _) _ _ _
    refine wpAny_bind (nextOf_tuple_end hd hit p (by simp; omega) fun h' ee hs he2 => ?_)
    obtain ⟨o, ho, hcl⟩ := he2
    refine wpAny_bind (wpAny_isInstance (T := "StopIteration") (b := true) ⟨o, ho, hcl⟩ isSubtype_stop ?_)
    exact wpAny_pure ⟨rfl, I.turned (t' := s.toks) (fun b o hb q => hs b o hb q) f0 f1 f3 f4 f5⟩
  self := fun A i s Q E st h => let ⟨⟨_, he⟩, _⟩ := st; wpAny_pyIter_enum he h
def iEnumA (K : PySem.W.Frag) (ta : TA) : TI := fun σ H R => ta σ H fun vs H1 => ∃ a xs, vs = [.ref a] ∧ ((SqL K H1 a xs ∧ R (Ite K a) H1) ∨ (SqT K H1 a xs ∧ R (IteT K a) H1))
theorem pi_enumA {X : Cx} {e : Expr} {ta : TA} {p pos tpos : Pos} {elts : List Expr} {kk : Nat} (hg : Gl X "enumerate") (hm : X.mg "enumerate" = none) (ha : PA X [e] ta) (hs : starEach [e] X.env = [(false, eval e X.env)] := by rfl) :
    PI X (.Tuple elts kk tpos) (.Call (.Name "enumerate" p) [e] [] pos) (iEnumA X.K ta) := by
  refine ⟨fun pins s σ H R I h => ?_⟩
  refine Call_ (ld_blt I hg hm boot_enumerate (PyProof.Rows.callWith_type1 (thn (ha.run pos pins s σ H _ I h) fun us s1 ⟨vs, H1, I1, r1, q1⟩ => ?_) hs rfl))
  obtain ⟨a, xs, ex, q1⟩ := q1
  subst ex
  cases r1 with
  | cons r rr =>
    cases rr
    cases r
    have fp : ∀ b ∈ [s1.heap.objs.size + 1, s1.heap.objs.size], FpOk X pins H1 b := fun b hb => by
      have hle : s1.heap.objs.size ≤ b := by
        rcases List.mem_cons.mp hb with z | hb
        · rw [z]; exact Nat.le_add_right _ _
        · rw [List.mem_singleton.mp hb]; exact Nat.le_refl _
      exact I1.fpOk hle (I1.hok.fresh hle)
    rcases q1 with ⟨hq, q⟩ | ⟨hq, q⟩
    · obtain ⟨its, rv, p', hz⟩ := I1.list hq
      refine call_enumerate_list p'.isList fun h' he hit hsz hk => wpAny_pyIter_enum he ?_
      have I2 : Inv X pins σ H1 { s1 with heap := h' } := I1.kept (t' := s1.toks) hk
      exact ⟨s1.heap.objs.size + 1, [s1.heap.objs.size + 1, s1.heap.objs.size], _, _, H1, rfl, I2, turn_enum a (s1.heap.objs.size + 1) s1.heap.objs.size, ⟨⟨.none, he⟩, hit, Nat.succ_ne_self _⟩, fp, q⟩
    · obtain ⟨its, rv, p', hz⟩ := I1.tuple hq
      obtain ⟨o, ho, _⟩ := id p'
      have hal : a < s1.heap.objs.size := Heap.lt_size ho
      refine call_enumT (show s1.heap.IsTuple a its.toArray from p') fun h' he hit hsz hk => wpAny_pyIter_enum he ?_
      have I2 : Inv X pins σ H1 { s1 with heap := h' } := I1.kept (t' := s1.toks) hk
      exact ⟨s1.heap.objs.size + 1, [s1.heap.objs.size + 1, s1.heap.objs.size], _, _, H1, rfl, I2, turn_enumT a (s1.heap.objs.size + 1) s1.heap.objs.size, ⟨⟨.none, he⟩, hit, Nat.succ_ne_self _, Nat.ne_of_gt (Nat.lt_succ_of_lt hal), Nat.ne_of_lt hal⟩, fp, q⟩
end RZ
namespace DL
open L2 PySem PySem.Spec PyProof.Rows
open Evl (Ex ex_l ex_t sz_of)
section
variable {K : PySem.W.Frag} {T : Tb} {S : SA} {E : XK} {Hb H Hb1 H1 : Hp} {n n1 : Nat} {te : TE} {FE : DT}
def enumD (k : Nat) : List D → List D
  | [] => []
  | x :: xs => .tup [.int (k : Nat), x] :: enumD (k + 1) xs
theorem enumD_len : ∀ {xs : List D} {k : Nat}, (enumD k xs).length = xs.length
  | [], _ => rfl
  | _ :: xs, k => by
    show (enumD (k + 1) xs).length + 1 = _
    rw [enumD_len] <;> rfl
theorem enumD_get : ∀ {xs : List D} {k i : Nat}, (enumD k xs)[i]? = (xs[i]?).map fun x => D.tup [.int ((k + i : Nat) : Int), x]
  | [], _, _ => by simp [enumD]
  | x :: xs, k, 0 => by simp [enumD]
  | x :: xs, k, i + 1 => by
    show (enumD (k + 1) xs)[i]? = _
    rw [enumD_get]
    have e : k + 1 + i = k + (i + 1) := by omega
    rw [e]
    rfl
theorem src_enumL {a : Addr} {xs : List V} {ds : List D} (h : SqL K Hb a xs) (hd : DnA K Hb xs ds) : SrcOk K (Ite K a) Hb (enumD 0 ds) := fun Hb1 H1 i e1 e2 => by
  have h1 := ex_l e2 (ex_l e1 h)
  refine ⟨fun hi => ⟨xs, h1, by rw [enumD_len] at hi; rw [hd.len]; exact hi⟩, fun d e => ?_⟩
  rw [enumD_get] at e
  obtain ⟨x, ex, rfl⟩ := Option.map_eq_some_iff.mp e
  obtain ⟨v, ev, hv⟩ := hd.get ex
  refine ⟨⟨xs, v, h1, ev⟩, fun z H' q => ?_⟩
  obtain ⟨p, x', rfl, hp, rfl, f1⟩ := q
  have z1 := f1 xs h1
  rw [ev] at z1
  cases z1
  have ex := Ex.new (o := .tup [.int (i : Nat), v]) (free_of e2 hp)
  refine .inr ⟨p, _, hp, rfl, (fun _ z => by cases z), .tup (SqT.of upd_same) (.cons ?_ (.cons ((hv.up e1).up ex) .nil))⟩
  rw [Nat.zero_add]
  exact .int _
theorem src_enumT {a : Addr} {xs : List V} {ds : List D} (h : SqT K Hb a xs) (hd : DnA K Hb xs ds) : SrcOk K (RZ.IteT K a) Hb (enumD 0 ds) := fun Hb1 H1 i e1 e2 => by
  have h1 := ex_t e2 (ex_t e1 h)
  refine ⟨fun hi => ⟨xs, h1, by rw [enumD_len] at hi; rw [hd.len]; exact hi⟩, fun d e => ?_⟩
  rw [enumD_get] at e
  obtain ⟨x, ex, rfl⟩ := Option.map_eq_some_iff.mp e
  obtain ⟨v, ev, hv⟩ := hd.get ex
  refine ⟨⟨xs, v, h1, ev⟩, fun z H' q => ?_⟩
  obtain ⟨p, x', rfl, hp, rfl, f1⟩ := q
  have z1 := f1 xs h1
  rw [ev] at z1
  cases z1
  have ex := Ex.new (o := .tup [.int (i : Nat), v]) (free_of e2 hp)
  refine .inr ⟨p, _, hp, rfl, (fun _ z => by cases z), .tup (SqT.of upd_same) (.cons ?_ (.cons ((hv.up e1).up ex) .nil))⟩
  rw [Nat.zero_add]
  exact .int _
def xiEnum (G : DTA) : DTI := fun ρ n P XP => G ρ n (fun ss n1 => match ss with
  | [.d (.lst xs)] => P (enumD 0 xs) n1
  | [.d (.tup xs)] => P (enumD 0 xs) n1
  | _ => False) XP
theorem rdi_enum {ta : TA} {GA : DTA} (h1 : RdA K T S E ta GA) : RdI K T S E (RZ.iEnumA K ta) (xiEnum GA) := fun σ ρ Hb H n P XP R w sl h q x =>
  h1 σ ρ Hb H n _ XP _ w sl h (fun ss vs n1 Hb1 H1 s ha p => by
    match ss, ha, p with
    | [.d (.lst xs)], ha, p =>
      obtain ⟨v, rfl, hv⟩ := Args.one (ss := []) ha
      cases hv with
      | @lst a as ds g1 g2 => exact ⟨a, as, rfl, .inl ⟨ex_l s.wd.ex g1, q _ n1 Hb1 H1 _ s (src_enumL g1 g2) p⟩⟩
    | [.d (.tup xs)], ha, p =>
      obtain ⟨v, rfl, hv⟩ := Args.one (ss := []) ha
      cases hv with
      | @tup a as ds g1 g2 => exact ⟨a, as, rfl, .inr ⟨ex_t s.wd.ex g1, q _ n1 Hb1 H1 _ s (src_enumT g1 g2) p⟩⟩) x

/-! ### three targets -/
def xgThree (i j k : Nat) : DTG := fun d ρ P => match d with
  | .tup [a, b, c] => P (((ρ.set i (.d a)).set j (.d b)).set k (.d c))
  | _ => False
theorem rdg_three {i j k : Nat} {vs : List Nat} (h : i ∈ vs) (h' : j ∈ vs) (h'' : k ∈ vs) : RdG K T S vs (gTup K 3 (gCons (gName i) (gCons (gName j) (gCons (gName k) gNil)))) (xgThree i j k) := fun v d σ ρ H0 Hb H n P Q w sl hd p q => by
  cases hd with
  | @tup a xs ds h1 h2 =>
    cases h2 with
    | nil => exact p.elim
    | @cons v1 vs1 d1 ds1 g1 r1 =>
      cases r1 with
      | nil => exact p.elim
      | @cons v2 vs2 d2 ds2 g2 r2 =>
        cases r2 with
        | nil => exact p.elim
        | @cons v3 vs3 d3 ds3 g3 r3 =>
          cases r3 with
          | cons _ _ => exact p.elim
          | nil => exact ⟨a, [v1, v2, v3], rfl, ex_t w.ex h1, rfl, v1, [v2, v3], rfl, v2, [v3], rfl, v3, [], rfl, rfl, q _ _ (((sl.set g1).set g2).set g3) (by rw [wipe_set h'', wipe_set h', wipe_set h]) p⟩
  | _ => exact p.elim
end
end DL

/-! dicts of one's own -/
namespace DL
open L2 PySem PySem.Spec PyProof.Rows
open Evl (Ex ex_l ex_t sz_of)
def isOd : SV → Bool
  | .od _ _ => true
  | .ot _ _ => true
  | _ => false
def noOd : List SV → Bool
  | [] => true
  | s :: ss => !isOd s && noOd ss
theorem noOd_get : ∀ {ρ : List SV} {i : Nat} {s : SV}, noOd ρ = true → ρ[i]? = some s → isOd s = false
  | [], i, s, _, e => by simp at e
  | t :: ss, 0, s, h, e => by
    simp at e
    subst e
    have z : (!isOd t && noOd ss) = true := h
    cases h1 : isOd t with
    | false => rfl
    | true => rw [h1] at z; cases z
  | t :: ss, i + 1, s, h, e => by
    have z : (!isOd t && noOd ss) = true := h
    exact noOd_get (ρ := ss) (i := i) (Bool.and_eq_true_iff.mp z).2 (by simpa using e)
section
variable {K : PySem.W.Frag} {T : Tb} {S : SA} {E : XK} {Hb H Hb1 H1 : Hp} {n n1 : Nat} {te : TE} {FE : DT}
/-- what is one's own is rewritten -/
theorem Stp.put {p : Addr} {o u : HO} (s : Stp K T S Hb H n Hb1 H1 n1) (hp : Fresh H p) (h2 : Hb1 p = none) (h1 : H1 p = some o) (nt : ∀ ps, o ≠ .tbl ps) (nx : ∀ φ, o ≠ .ext φ) (nu : ∀ ps, u ≠ .tbl ps) (na : p ≠ S.a) (nl : p ≠ S.l) : Stp K T S Hb H n Hb1 (upd H1 p u) n1 := by
  refine ⟨s.ex, s.wd.put h1 h2 nt nx nu, fun h0 => ?_, fun b v e1 e2 e3 e4 e5 => ?_, fun b e => s.dm b (dm_upd nu b e)⟩
  · obtain ⟨g1, g2, ls, cs, m, t, g3, g4, g5, g6, g7, g8, rest⟩ := s.st h0
    exact ⟨g1, g2, ls, cs, m, t, g3, g4, g5, by rw [upd_ne na.symm]; exact g6, by rw [upd_ne nl.symm]; exact g7, g8, rest⟩
  · rw [upd_ne (hp.ne e1 e5)]
    exact s.own b v e1 e2 e3 e4 e5
def slotE (ρ : List SV) (i : Nat) (k : List Key → List D → Prop) : Prop := match ρ[i]? with
  | some (.od ks ds) => k ks ds
  | _ => False
theorem slotE_zero {ks : List Key} {ds : List D} {ρ : List SV} {k : List Key → List D → Prop} : slotE (.od ks ds :: ρ) 0 k = k ks ds := rfl
theorem slotE_succ {s : SV} {ρ : List SV} {i : Nat} {k : List Key → List D → Prop} : slotE (s :: ρ) (i + 1) k = slotE ρ i k := rfl
theorem Slots.ownE {ρ : List SV} {σ : L2.St} {i : Nat} {k : List Key → List D → Prop} (sl : Slots K S Hb H n ρ σ) (h : slotE ρ i k) : ∃ ks ds p kvs, ρ[i]? = some (.od ks ds) ∧ σ[i]? = some (some (.ref p)) ∧ H p = some (.dK kvs) ∧ Hb p = none ∧ p ≠ S.a ∧ p ≠ S.l ∧ p ≠ S.c ∧ kvs.map (·.1) = ks ∧ DnA K Hb (kvs.map (·.2)) ds ∧ k ks ds := by
  unfold slotE at h
  cases e : ρ[i]? with
  | none => rw [e] at h; exact h.elim
  | some s =>
    rw [e] at h
    cases s with
    | od ks ds =>
      obtain ⟨o, e1, p, kvs, e2, e3, e4, e5, e6, e8, e7, e9⟩ := sl.ok i _ e
      exact ⟨ks, ds, p, kvs, rfl, by rw [e1, e2], e3, e4, e5, e6, e8, e7, e9, h⟩
    | ot _ _ => exact h.elim
    | _ => exact h.elim
/-- a slot that holds no list gets what holds -/
theorem Slots.setX {ρ : List SV} {σ : L2.St} {i : Nat} {s : SV} {o : Option V} (sl : Slots K S Hb H n ρ σ) (h : SlotOk K S Hb H n s o) (hs : ∀ xs, s ≠ .ol xs) : Slots K S Hb H n (ρ.set i s) (σ.set i o) where
  len := by rw [List.length_set, List.length_set]; exact sl.len
  ok := fun j t e => by
    by_cases hj : i = j
    · subst hj
      have hl : i < ρ.length := by
        have := (List.getElem?_eq_some_iff.mp e).1
        rwa [List.length_set] at this
      rw [List.getElem?_set_self hl] at e
      cases e
      exact ⟨o, List.getElem?_set_self (by rw [← sl.len]; exact hl), h⟩
    · rw [List.getElem?_set_ne hj] at e
      obtain ⟨o, e1, e2⟩ := sl.ok j t e
      exact ⟨o, by rw [List.getElem?_set_ne hj]; exact e1, e2⟩
  ap := fun j k p xs ys hjk ej ek sj sk => by
    by_cases h1 : i = j
    · subst h1
      have hl : i < ρ.length := by
        have := (List.getElem?_eq_some_iff.mp ej).1
        rwa [List.length_set] at this
      rw [List.getElem?_set_self hl] at ej
      exact hs _ (Option.some.inj ej)
    · by_cases h2 : i = k
      · subst h2
        have hl : i < ρ.length := by
          have := (List.getElem?_eq_some_iff.mp ek).1
          rwa [List.length_set] at this
        rw [List.getElem?_set_self hl] at ek
        exact hs _ (Option.some.inj ek)
      · rw [List.getElem?_set_ne h1] at ej sj
        rw [List.getElem?_set_ne h2] at ek sk
        exact sl.ap j k p xs ys hjk ej ek sj sk
/-- the rest of the frame where the dict at p is rewritten -/
theorem Slots.putE {ρ : List SV} {σ : L2.St} {p : Addr} {kvs us : List (Key × V)} (sl : Slots K S Hb H n ρ σ) (h1 : H p = some (.dK kvs)) (h3 : p ≠ S.a) (h4 : p ≠ S.l) (no : noOd ρ = true) : Slots K S Hb (upd H p (.dK us)) n ρ σ := by
  have keep : ∀ {b : Addr} {o : HO}, H b = some o → b ≠ p → upd H p (.dK us) b = some o := fun e hb => by rw [upd_ne hb]; exact e
  refine ⟨sl.len, fun j s e => ?_, sl.ap⟩
  obtain ⟨o, e1, e2⟩ := sl.ok j s e
  refine ⟨o, e1, ?_⟩
  cases s with
  | no => trivial
  | d x => exact e2
  | st =>
    obtain ⟨e3, st⟩ := e2
    obtain ⟨g1, g2, ls, cs, m, t, g3, g4, g5, g6, g7, g8, rest⟩ := st
    exact ⟨e3, g1, g2, ls, cs, m, t, g3, g4, g5, keep g6 h3.symm, keep g7 h4.symm, g8, rest⟩
  | ol zs =>
    obtain ⟨q, ws, e3, e4, rest⟩ := e2
    exact ⟨q, ws, e3, keep e4 (fun z => by rw [z, h1] at e4; cases e4), rest⟩
  | me y C ms es2 =>
    obtain ⟨e3, dx, fs, e4, rest⟩ := e2
    exact ⟨e3, dx, fs, keep e4 (fun z => by rw [z, h1] at e4; cases e4), rest⟩
  | od ks es2 =>
    have z := noOd_get no e
    cases z
  | ot ks es2 =>
    have z := noOd_get no e
    cases z
  | fv F =>
    obtain ⟨f, c, e3, e4, e5, rest⟩ := e2
    exact ⟨f, c, e3, e4, keep e5 (fun z => by rw [z, h1] at e5; exact codeO_no (o := .dK kvs) (fun _ z => by cases z) (Option.some.inj e5)), rest⟩
theorem set_set {α : Type} {ρ : List α} {i : Nat} {a b : α} : (ρ.set i a).set i b = ρ.set i b := List.set_set ..
theorem set_get {α : Type} : ∀ {ρ : List α} {i : Nat} {a : α}, ρ[i]? = some a → ρ.set i a = ρ
  | [], _, _, _ => rfl
  | x :: ρ, 0, a, h => by
    simp at h
    rw [h]
    rfl
  | x :: ρ, i + 1, a, h => by
    show x :: ρ.set i a = _
    rw [set_get (by simpa using h)]
theorem OwF.setF {H0 : Hp} {ρ : List SV} {σ : L2.St} {i : Nat} {s : SV} {p : Addr} (f : OwF H0 ρ σ) (h : Fresh H0 p) (hl : ρ.length = σ.length) : OwF H0 (ρ.set i s) (σ.set i (some (.ref p))) := fun j xs r ej eo sj => by
  by_cases hj : i = j
  · subst hj
    have hl2 : i < ρ.length := by
      have := (List.getElem?_eq_some_iff.mp ej).1
      rwa [List.length_set] at this
    rw [List.getElem?_set_self (by rw [← hl]; exact hl2)] at sj
    have er : p = r := V.ref.inj (Option.some.inj (Option.some.inj sj))
    rw [← er]
    exact h
  · rw [List.getElem?_set_ne hj] at ej sj
    exact f j xs r ej eo sj
/-- x = {..}, a dict of one's own -/
def xsSetD (i : Nat) (prs : List (DT × DT)) : DTS := fun DD ρ n XP => noOd (ρ.set i .no) = true ∧ xPairs prs ρ n (fun ks ds n1 => ks.Nodup ∧ ks.length ≤ 15 ∧ DD.nx (ρ.set i (.od ks ds)) n1) XP
theorem rds_setD {i : Nat} {trs : List (TE × TE)} {prs : List (DT × DT)} (h : RdP K T S E trs prs) : RdS K T S E (tAsg (tDisp trs) (gName i)) (xsSetD i prs) := fun σ ρ Hb0 H0 n0 Hb H n DD XP D a sl hp q x p hn => by
  obtain ⟨no, hp⟩ := hp
  have w := a.wd
  have s0 : Stp K T S Hb H n Hb (upd H p (.dK [])) n := .newO w hn
  obtain ⟨n1, n2, n3⟩ := w.nS (fresh_none hn)
  refine rd_pairs h s0.wd ((sl.sl).step s0) hp (fun kvs ks ds n' Hb' H' s ek hd p1 => ?_) ((x.step a).step s0)
  obtain ⟨hnd, hl, p1⟩ := p1
  obtain ⟨g1, g2⟩ := s.own p _ upd_same (free_of w.ex hn) n1 n2 (fun ps z => by cases z)
  have el : kvs.length = ks.length := by rw [← ek, List.length_map]
  refine ⟨g1, kvs, rfl, by omega, ?_⟩
  have em : mergeK [] kvs = kvs := by
    rw [merge_nodup (by rw [List.nil_append, ek]; exact hnd)]
    rfl
  rw [em]
  have s2 := s0.trans s
  have s3 := s2.put (u := .dK kvs) (fresh_none hn) g2 g1 (fun _ z => by cases z) (fun _ z => by cases z) (fun _ z => by cases z) n1 n2
  have sl2 := sl.step s2
  have f0 : Fresh H0 p := a.dm p (fresh_none hn)
  have b1 : Slots K S Hb' H' n' (ρ.set i .no) (σ.set i (some (.ref p))) := sl2.sl.forget
  have b2 := b1.putE (us := kvs) g1 n1 n2 no
  have b3 := b2.setX (i := i) (s := .od ks ds) (o := some (.ref p)) ⟨p, kvs, rfl, upd_same, g2, n1, n2, n3, ek, hd⟩ (fun _ z => by cases z)
  rw [set_set, set_set] at b3
  exact q.nx _ _ n' Hb' _ s3.ex (a.trans s3) ⟨b3, sl2.fr.setF f0 sl.sl.len⟩ p1
/-- x[k] = e, x a dict of one's own that lacks k -/
def xsPutD (i : Nat) (k : Key) (F : DT) : DTS := fun DD ρ n XP => noOd (ρ.set i .no) = true ∧ F ρ n (fun d n1 => slotE ρ i fun ks ds => k ∉ ks ∧ ks.length ≤ 100 ∧ DD.nx (ρ.set i (.od (ks ++ [k]) (ds ++ [d]))) n1) XP
theorem rds_putD {i : Nat} {z : Str} (h1 : DL.Rd K T S E te FE) : RdS K T S E (sDPut (tVar i) (tC (.str z)) te) (xsPutD i (.inr z) FE) := fun σ ρ Hb0 H0 n0 Hb H n DD XP D a sl h q x => by
  obtain ⟨no, h⟩ := h
  refine h1 σ ρ Hb H n _ XP _ a.wd sl.sl h (fun d v n' Hb' H' s hd pp => ?_) (x.step a)
  have sl2 := sl.step s
  obtain ⟨ks, ds, p, kvs, e, es, e3, e4, e5, e6, e8, e7, e9, hk, hl, pp⟩ := sl2.sl.ownE pp
  have f0 : Fresh H0 p := sl.fr i _ p e rfl es
  have ep : putK kvs (Sum.inr z : Key) v = kvs ++ [(Sum.inr z, v)] := by
    unfold putK
    refine if_neg (fun y => ?_)
    obtain ⟨kv, hm, hd2⟩ := List.any_eq_true.mp y
    have e0 : kv.1 = (Sum.inr z : Key) := of_decide_eq_true hd2
    exact hk (by rw [← e7, ← e0]; exact List.mem_map.mpr ⟨kv, hm, rfl⟩)
  refine ⟨.ref p, es, p, upd H' p (.dK (kvs ++ [(Sum.inr z, v)])), rfl, ?_, ?_⟩
  · refine .inl ⟨kvs, Sum.inr z, e3, rfl, Evl.sz_lt ?_, by rw [ep]⟩
    have e9l : kvs.length = ks.length := by rw [← e7, List.length_map]
    omega
  · have s3 := (a.trans s).put (u := .dK (kvs ++ [(.inr z, v)])) f0 e4 e3 (fun _ z => by cases z) (fun _ z => by cases z) (fun _ z => by cases z) e5 e6
    have b1 : Slots K S Hb' H' n' (ρ.set i .no) (σ.set i (some (.ref p))) := sl2.sl.forget
    have b2 := b1.putE (us := kvs ++ [(.inr z, v)]) e3 e5 e6 no
    have b3 := b2.setX (i := i) (s := .od (ks ++ [.inr z]) (ds ++ [d])) (o := some (.ref p)) ⟨p, _, rfl, upd_same, e4, e5, e6, e8, by rw [List.map_append, e7]; rfl, by rw [List.map_append]; exact e9.app (.one hd)⟩ (fun _ z => by cases z)
    rw [set_set, set_set] at b3
    have hσ : σ.set i (some (V.ref p)) = σ := set_get es
    have b4 := sl2.fr.setF (i := i) (s := .od (ks ++ [.inr z]) (ds ++ [d])) f0 sl.sl.len
    rw [hσ] at b3 b4
    exact q.nx _ _ n' Hb' _ s.ex s3 ⟨b3, b4⟩ pp
/-- return x, x a dict of one's own -/
def xsRetE (i : Nat) : DTS := fun DD ρ n _ => slotE ρ i fun ks ds => DD.rt (.dic ks ds) n
theorem rds_retE {i : Nat} : RdS K T S E (tRet (tVar i)) (xsRetE i) := fun σ ρ Hb0 H0 n0 Hb H n DD XP D a sl h q x => by
  obtain ⟨ks, ds, p, kvs, e, es, e3, e4, e5, e6, e8, e7, e9, h⟩ := sl.sl.ownE h
  have f0 : Fresh H0 p := sl.fr i _ p e rfl es
  have a' := a.freeze (o := .dK kvs) f0 e4 (by rw [e3]; exact fun z => by cases z) (fun ps z => by rw [e3] at z; cases z) (fun c u z => by rw [e3] at z; exact codeO_no (o := .dK kvs) (fun _ z => by cases z) (Option.some.inj z)) e5 e6 e8
  rw [upd_id e3] at a'
  exact ⟨.ref p, es, q.rt _ _ n _ H a' (.dic upd_same e7 (e9.up (Ex.new e4))) h⟩
end
end DL

/-! exceptions with one attribute: raised, asked -/
namespace DL
open L2 PySem PySem.Spec PyProof.Rows
open Evl (Ex ex_l ex_t sz_of)
def spX1 (K : PySem.W.Frag) (C : Addr) (f : Str) : Sp := fun vs H Q _ => ∃ a v, vs = [.ref a, v] ∧ OexC K C ∧ PySem.W.findIn K (.ref C) f = some none ∧ H a = some (exo a C none) ∧
  ∀ dx, H dx = none → dx ≠ a → Q .non (upd (upd H dx (exd dx [(f, v)])) a (exo a C (some dx)))
section
variable {P : Program} {w : PySem.World} {K : PySem.W.Frag} {T : Tb} {mg : Str → Option Value} {base : Heap}
/-- an __init__ that stores one attribute -/
theorem init_x1 {qual f a b : Str} {st : Stmt} {C g : Addr} {fd : FuncData} {p1 p2 p3 p4 : Pos} (F : Fun K "__init__" qual st g fd) (Sc : FnScope [a, b] [a, b] (defScope st)) (la : (defScope st).names.lookup a = some .local) (lb : (defScope st).names.lookup b = some .local) (hda : (a == ("__debug__" : Str)) = false) (hca : (a == ("__classdict__" : Str)) = false) (hdb : (b == ("__debug__" : Str)) = false) (hcb : (b == ("__classdict__" : Str)) = false) (hb : defBody st = [.Assign [.Attribute (.Name a p1) f p2] (.Name b p3) p4]) : FnOk P w K mg base CX0 1 g fd [a, b] (spX1 K C f) := by
  refine F.ok Sc (fun vs H Q E h => ?_) (fun cdv A outer s H vs Q E hr h => ?_)
  · obtain ⟨y, v, rfl, _⟩ := h
    rfl
  · obtain ⟨y, v, rfl, hO, hf, e, q⟩ := h
    rw [hb]
    refine ⟨_, pss_one (ps_ost (pe_var (i := 0) rfl (.inl la) hda hca) (pe_var (i := 1) rfl (.inl lb) hdb hcb)), ?_⟩
    exact ⟨v, rfl, .ref y, rfl, y, C, rfl, hO, hf, .inl ⟨e, fun dx h1 h2 => q dx h1 h2⟩⟩
end
section
variable {K : PySem.W.Frag} {T : Tb} {S : SA} {E : XK} {Hb H Hb1 H1 : Hp} {n n1 : Nat} {te : TE} {FE : DT}
/-- raise C(e) -/
def xsRaise1 (C : Addr) (f : Str) (G : DTA) : DTS := fun _ ρ n XP => G ρ n (fun ss n1 => ∃ d, ss = [.d d] ∧ XP C [f] [d] n1) XP
theorem rds_raise1 {C : Addr} {f : Str} {ta : TA} {G : DTA} (hO : OexC K C) (hf : PySem.W.findIn K (.ref C) f = some none) (h1 : RdA K T S E ta G) : RdS K T S E (fun _ σ H => tMkO C (spX1 K C f) [] ta σ H fun cls d H' => E cls d H') (xsRaise1 C f G) := fun σ ρ Hb0 H0 n0 Hb H n DD XP D a sl h q x =>
  h1 σ ρ Hb H n _ XP _ a.wd sl.sl h (fun ss vs n1 Hb1 H1 s ha p => by
    obtain ⟨d, rfl, p⟩ := p
    obtain ⟨v, rfl, hv⟩ := Args.one (ss := []) ha
    refine ⟨by simp, fun y hy => ?_⟩
    refine ⟨y, v, rfl, hO, hf, upd_same, fun dx hdx hne => ?_⟩
    rw [upd_ne hne] at hdx
    refine ⟨rfl, dx, [(f, v)], upd_same, by rw [upd_ne hne, upd_same], hdx, ?_⟩
    have e : upd (del (upd (upd (upd H1 y (exo y C none)) dx (exd dx [(f, v)])) y (exo y C (some dx))) y) dx (.xd [(f, v)]) = upd H1 dx (.xd [(f, v)]) := by
      funext b
      by_cases hb : b = dx
      · rw [hb, upd_same, upd_same]
      · rw [upd_ne hb, upd_ne hb]
        by_cases hb2 : b = y
        · rw [hb2, del_same, hy]
        · rw [del_ne hb2, upd_ne hb2, upd_ne hb, upd_ne hb2]
    rw [e]
    have s1 : Stp K T S Hb1 H1 n1 (upd Hb1 dx (.xd [(f, v)])) (upd H1 dx (.xd [(f, v)])) n1 := .new s.wd hdx
    have ex := Ex.new (o := .xd [(f, v)]) (free_of s.wd.ex hdx)
    exact x C [f] [d] n1 (some dx) _ _ ((a.trans s).trans s1) ⟨[(f, v)], .inr ⟨dx, rfl, by simp, upd_same⟩, rfl, .cons (hv.up ex) .nil⟩ p) (x.step a)
/-- e.f, e an exception that was caught -/
def tXat (K : PySem.W.Frag) (ta : TE) (f : Str) : TE := fun σ H Q => ta σ H fun x H1 => ∃ (a C dd : Addr) (fs : List (Str × V)) (v : V), x = .ref a ∧ H1 a = some (ExT C (some dd) a) ∧ H1 dd = some (.xd fs) ∧ ExcC K C ∧ PySem.W.findIn K (.ref C) f = some none ∧ fs.lookup f = some v ∧ Q v H1
theorem pe_xat {X : Cx} {e : Expr} {ta : TE} {pos : Pos} {f : Str} (he : PE X e ta) (hb : attributeBase e f X.env (eval e X.env) = eval e X.env := by rfl) : PE X (.Attribute e f pos) (tXat X.K ta f) := by
  refine ⟨fun pins s σ H Q I h => ?_⟩
  refine attr_of hb (thn (he.run pins s σ H _ I h) fun u s1 hh => ?_)
  obtain ⟨x, H1, I1, rx, a, C, dd, fs, v, ex, ha, ed, T, hno, l, q⟩ := hh
  subst ex
  obtain rfl : u = Value.ref a := rx
  obtain ⟨⟨oe, vs, h1, ⟨h2, h3⟩, h4⟩, _, _⟩ := I1.hok a _ ha
  have hx : ObjOk X.prog X.w H1 s1.heap dd (.xd fs) := I1.hok dd _ ed
  obtain ⟨mA, hns, hr⟩ := hx
  obtain ⟨od, ho, hl⟩ := lookIn_ns hns
  obtain ⟨u, hu, ru⟩ := RelO.some_of (v := v) (o := mA f) (by rw [← l]; exact hr f)
  have J : PySem.W.InstAt s1.heap a oe C (some od) := ⟨h1, h2, by unfold PySem.W.notCls; rw [h4], by rw [h3]; exact ho⟩
  exact HandSPX.exc_get I1.kIn J T.hg T.hk T.hs (PySem.W.findObj_own T.hd hno rfl (by rw [hl, hu])) (handed_of ru) ⟨v, H1, I1.tok _, ru, q⟩
def xXat (K : PySem.W.Frag) (f : Str) (F : DT) : DT := fun ρ n P XP => F ρ n (fun d n1 => match d with
  | .exc C ns ds => PySem.W.findIn K (.ref C) f = some none ∧ ∃ x, fldD ns ds f = some x ∧ P x n1
  | _ => False) XP
theorem rd_xat {f : Str} (h1 : DL.Rd K T S E te FE) : DL.Rd K T S E (tXat K te f) (xXat K f FE) := fun σ ρ Hb H n P XP Q w sl h q x =>
  h1 σ ρ Hb H n _ XP _ w sl h (fun d v n1 Hb1 H1 s hd p => by
    cases hd with
    | @exc a C od fs ns ds hC hT g1 g0 g2 g3 =>
      obtain ⟨hn, y, e, p⟩ := p
      obtain ⟨v, e2, hv⟩ := fld_of g2 g3 e
      rcases g0 with g0 | ⟨dd, g0, hne, g4⟩
      · rw [g0.2] at e2
        cases e2
      · subst g0
        exact ⟨a, C, dd, fs, v, rfl, s.wd.ex _ _ g1, s.wd.ex _ _ g4, hC, hn, e2, q _ _ n1 Hb1 H1 s hv p⟩
    | _ => exact p.elim) x
end
end DL

/-! lambdas of one value that are handed on and called; functions as data -/
namespace DL
open L2 PySem PySem.Spec PyProof.Rows
open Evl (Ex ex_l ex_t sz_of)
/-! ### the call of such a lambda -/
def LamOk (P : Program) (w : PySem.World) (K : PySem.W.Frag) (mg : Str → Option Value) (base : Heap) (k : Nat) (F : FV) (sp : Sp) : Prop :=
  ∀ (A : Around) (outer : List Env) (s : Shared) (H : Hp) (f c : Addr) (v : V) (u : Value) (Q : VK) (E : XK), Room k A → H f = some (LamV F c f) → H c = some (LamX.CodeO c F.q) → sp [v] H Q E → L2.RelV v u → Env0 P w K mg base A outer s H →
    codeAny (model P w) A (.call (.ref f) ⟨[u], []⟩) (CR (L2.CX P w) outer P w H s Q E) s
section
variable {P : Program} {w : PySem.World} {K : PySem.W.Frag} {T : Tb} {mg : Str → Option Value} {base : Heap} {k : Nat} {F : FV} {sp : Sp}
theorem lamV_fun {P : Program} {w : PySem.World} {H : Hp} {h : Heap} {f c : Addr} (ok : HOk P w H h) (e : H f = some (LamV F c f)) : ∃ pm ctv, h.get? f = some (PySem.W.kla_obj "<lambda>" F.q F.ps F.body F.scope [] pm c ctv) := by
  obtain ⟨z, _, _⟩ := ok f _ e
  exact z
theorem lamOk_of {N : List Str} {x : Str} (Sc : FnScope N [x] F.scope) (hbind : ∀ (pm cv ctv : Value) (u : Value), bindArgs (PySem.W.kla_fn "<lambda>" F.q F.ps F.body F.scope [] pm cv ctv) ⟨[u], []⟩ = pure [(x, u)])
    (hbody : ∀ (c : Addr) (A : Around) (outer : List Env) (s : Shared) (H : Hp) (f : Addr) (v : V) (Q : VK) (E : XK), Room k (A.deeper (envOfC F.q F.scope s.heap.objs.size f (.ref c))) → sp [v] H Q E →
      ∃ t, PE (cxOf (L2.CX P w) P w K mg base N F.q F.scope f (.ref c) A outer s H E) F.body t ∧ t (L2.start N [v]) H Q) : LamOk P w K mg base (k + 1) F sp := by
  intro A outer s H f c v u Q E hr hf hc hsp rv e0
  obtain ⟨pm, ctv, hget⟩ := lamV_fun e0.hok hf
  obtain ⟨⟨oc, vs, t, hoc, hd, hv⟩, _, _⟩ := e0.hok c _ hc
  have lim : s.heap.NoLimit := e0.mod.nolimit.keeps fun b o e => (e0.bs b o e).1
  have hkind : ∀ y ∈ ([x] : List Str).zip [u], F.scope.names.lookup y.1 = some .local ∨ (F.scope.names.lookup y.1 = some .cell ∧ ((cellsFrom (s.heap.objs.size + 1) F.scope.names []).lookup y.1).isSome = true) := fun ⟨n, v⟩ hy => by
    rcases Sc.par n (List.of_mem_zip hy).1 with q | q
    · exact .inl q
    · exact .inr ⟨q, PySem.W.cellsFrom_some _ _ _ (.inl q)⟩
  refine PySem.W.kla_callFunE hr.depth hget rfl Sc.co Sc.gen rfl ⟨c, oc, vs, t, rfl, hoc, hd, hv⟩ ?_
  rw [hbind]
  refine wpAny_pure ?_
  refine wpAny_newFunctionEnv_cells Sc.kind hkind fun env he s1 y => ?_
  subst he
  refine ⟨lim.keeps y.toInCall.keep, ?_⟩
  obtain ⟨t', ht, hq⟩ := hbody c A outer s H f v Q E (hr.deeper _) hsp
  have r1 : Vals [v] [u] := .cons rv .nil
  have I : Inv (cxOf (L2.CX P w) P w K mg base N F.q F.scope f (.ref c) A outer s H E) [] (L2.start N [v]) H s1 := inv_start (us := [u]) Sc hr.hd e0 rfl r1 y
  refine PySem.W.kla_codeExpr (wpAny_mono (ht.run [] s1 (L2.start N [v]) H Q I hq) (fun v' s' hs => ?_) fun e s' hs => hs)
  obtain ⟨x', H', J, rx, q⟩ := hs
  exact ⟨x', H', J.os, J.bare, J.base, J.hok, rx, q⟩
/-- its promise on data -/
def LamOkD (P : Program) (w : PySem.World) (K : PySem.W.Frag) (mg : Str → Option Value) (base : Heap) (T : Tb) (k : Nat) (F : FV) (G : D → Nat → DQ → DX → Prop) : Prop := LamOk P w K mg base k F (spOf K T fun ss n P XP => ∃ d, ss = [.d d] ∧ G d n P XP)
theorem lamOkD_of {N : List Str} {x : Str} {G : D → Nat → DQ → DX → Prop} (Sc : FnScope N [x] F.scope) (hbind : ∀ (pm cv ctv : Value) (u : Value), bindArgs (PySem.W.kla_fn "<lambda>" F.q F.ps F.body F.scope [] pm cv ctv) ⟨[u], []⟩ = pure [(x, u)])
    (hb : ∀ (S : SA) (c : Addr) (A : Around) (outer : List Env) (s : Shared) (H : Hp) (f : Addr) (E : XK), Room k (A.deeper (envOfC F.q F.scope s.heap.objs.size f (.ref c))) →
      ∃ te G', PE (cxOf (L2.CX P w) P w K mg base N F.q F.scope f (.ref c) A outer s H E) F.body te ∧ DL.Rd K T S E te G' ∧ ∀ d n P XP, G d n P XP → G' (startS N [.d d]) n P XP) : LamOkD P w K mg base T (k + 1) F G := by
  refine lamOk_of Sc hbind fun c A outer s H f v Q E hr h => ?_
  obtain ⟨S, Hb, n, ss, P', XP, wd, ha, ⟨d, rfl, hd⟩, q, x⟩ := h
  obtain ⟨te, G', h1, h2, h3⟩ := hb S c A outer s H f E hr
  exact ⟨te, h1, h2 _ _ Hb H n P' XP Q wd (.start ha rfl) (h3 d n P' XP hd) q x⟩
end
section
variable {X : Cx} {k i : Nat} {x : Str} {p pos : Pos} {e : Expr} {ta : TA} {E : XK}
/-- x(e), x a name that holds such a lambda -/
def tCallV (P : Program) (w : PySem.World) (K : PySem.W.Frag) (mg : Str → Option Value) (base : Heap) (k i : Nat) (t : TA) (E : XK) : TE := fun σ H Q => ∃ (f c : Addr) (F : FV) (sp : Sp), σ[i]? = some (some (.ref f)) ∧ H f = some (LamV F c f) ∧ LamOk P w K mg base k F sp ∧
  t σ H fun vs H1 => H1 f = some (LamV F c f) ∧ H1 c = some (LamX.CodeO c F.q) ∧ ∃ v, vs = [v] ∧ sp [v] H1 Q E
theorem pe_callV (hr : Room k X.A) (hN : X.N[i]? = some x) (hv : Vis X.env.scope x) (hx : Passes (L2.CX X.prog X.w) X E) (ha : PA X [e] ta) (hdb : (x == ("__debug__" : Str)) = false := by decide) (hcd : (x == ("__classdict__" : Str)) = false := by decide)
    (he : starEach [e] X.env = (false, eval e X.env) :: starEach [] X.env := by rfl) (hpl : (backTo pos (starEach ([] : List Expr) X.env)).any (·.1) = false := by rfl) :
    PE X (.Call (.Name x p) [e] [] pos) (tCallV X.prog X.w X.K X.mg X.base k i ta E) := by
  refine ⟨fun pins s σ H Q I h => ?_⟩
  obtain ⟨f, c, F, sp, hs, hf, ok, h⟩ := h
  refine wpAny_Call_Name_kw (thn ((pe_var (pos := p) (i := i) hN hv hdb hcd).run pins s σ H (fun v H1 => v = .ref f ∧ H1 = H) I ⟨.ref f, hs, rfl, rfl⟩) fun u s1 ⟨v, H1, I1, r1, q1⟩ => ?_)
  obtain ⟨rfl, rfl⟩ := q1
  obtain rfl : u = Value.ref f := r1
  obtain ⟨pm, ctv, hget⟩ := lamV_fun I1.hok hf
  refine PySem.W.callWith_F ⟨_, _, _, _, hget⟩ ?_ he hpl
  refine thn (ha.run pos pins s1 σ _ _ I1 h) fun us s2 ⟨vs, H2, I2, r2, hf2, hc2, v, ev, hsp⟩ => ?_
  subst ev
  obtain ⟨pm2, ctv2, hget2⟩ := lamV_fun I2.hok hf2
  refine ⟨⟨_, _, _, _, hget2⟩, ?_⟩
  cases r2 with
  | cons ru rr =>
    cases rr
    refine wpAny_call (codeAny_mono (ok X.A X.stack s2 H2 f c v _ Q E hr hf2 hc2 hsp ru I2.env0) fun r s' hq => ?_)
    cases r with
    | error e => exact hx pins σ H2 s2 e s' I2 hq
    | ok fl =>
      cases fl with
      | ret u => exact I2.after hq
      | next => exact False.elim hq
      | brk => exact False.elim hq
      | cont => exact False.elim hq
/-! ### its making -/
def tLamV (T : Tb) (F : FV) : TE := fun σ H Q => LamX.Tabs T H ∧ ∀ (f c : Addr) (H1 : Hp), LamX.ExtN H H1 → LamX.Tabs T H1 → H1 f = none → H1 c = some (LamX.CodeO c F.q) → Q (.ref f) (upd H1 f (LamV F c f))
theorem lamV_ok {P : Program} {w : PySem.World} {H : Hp} {h : Heap} {F : FV} {f c : Addr} {pm ctv : Value} (e : h.get? f = some (PySem.W.kla_obj "<lambda>" F.q F.ps F.body F.scope [] pm c ctv)) : ObjOk P w H h f (LamV F c f) :=
  ⟨⟨pm, ctv, e⟩, ⟨_, e⟩, fun h1 h2 ⟨pm, ctv, z⟩ st => ⟨pm, ctv, st _ z⟩⟩
theorem lamV_tbl {F : FV} {f c : Addr} (ps : Array Value) : LamV F c f ≠ .tbl ps := fun z => by
  unfold LamV at z
  cases z
theorem pe_lamV {T : Tb} {c : Addr} {params : Arguments} {body : Expr} {scope : Scope} (M : MakesAt X.base X.mg T (X.env.qual ++ "<lambda>") c) (hcode : X.env.code = .ref c) (hdef : defaultsOf params X.env = ([], [])) (hclo : ∀ cells, L2.cloFrom cells scope.names [] = [])
    (hfree : ∀ y ∈ scope.names, y.2 = .free → ∃ c, X.env.cells.lookup y.1 = some c) : PE X (.Lambda params body scope pos) (tLamV T ⟨X.env.qual ++ "<lambda>", params, body, scope⟩) := by
  refine ⟨fun pins s σ H Q I h => ?_⟩
  obtain ⟨hT, h⟩ := h
  obtain ⟨P, TB, hm, hu⟩ := M.ex
  obtain ⟨ps, hP, ht, ha⟩ := hT _ hm
  refine PySem.W.kla_eval hdef ?_
  have bP : s.heap.BuiltinsAt X.mg P := TB.bm.keeps I.bk
  have hP' : s.heap.get? P = some { cls := .none, data := .fields ps } := I.hok P _ hP
  cases hc : codeAmong pos ps.toList with
  | none =>
    refine PySem.W.kla_makeFunction (mg := X.mg) (c := c) (P := P) (ps := ps) (closure_ok hfree) I.ok.glob (I.mod.glob.keeps I.bk) hcode (TB.code.keeps I.bk) hP' ht hc TB.gP bP fun c' ctv h' tk hx hge hlt hrec htb => ?_
    rw [hclo]
    obtain ⟨c2, oc, vs, t, e2, hoc, hd, hv⟩ := hrec
    cases e2
    have nC : H c' = none := I.hok.fresh hge
    have hsz : s.heap.objs.size ≤ h'.objs.size := Nat.le_trans hge (Nat.le_of_lt hlt)
    have I1 := LamX.inv_table (t' := tk) (more := #[rawInt pos.line, rawInt pos.col, .ref c']) (h' := h') I hP (fun b o hb e => hx b o hb e) htb hge ⟨oc, vs, t, hoc, hd, hv⟩
    have hE : LamX.ExtN H (upd (upd H P (.tbl (ps ++ #[rawInt pos.line, rawInt pos.col, .ref c']))) c' (LamX.CodeO c' (X.env.qual ++ "<lambda>"))) := fun b o e n => by
      rw [upd_ne (ne_of_none e nC), upd_ne (fun z => n ps (Option.some.inj (e.symm.trans (by rw [z]; exact hP))))]
      exact e
    have eL : (ps ++ #[rawInt pos.line, rawInt pos.col, .ref c']).toList = ps.toList ++ [rawInt pos.line, rawInt pos.col, .ref c'] := by simp
    have T1 : LamX.Tabs T (upd (upd H P (.tbl (ps ++ #[rawInt pos.line, rawInt pos.col, .ref c']))) c' (LamX.CodeO c' (X.env.qual ++ "<lambda>"))) := fun p hp => by
      by_cases hb : p.1 = P
      · rw [hu p hp hb, hb]
        refine ⟨_, by rw [upd_ne (ne_of_none hP nC), upd_same], by rw [eL]; exact PySem.TriplesOk_snoc _ _ _ _ ht, fun p' cv hcv => ?_⟩
        rw [eL] at hcv
        rcases LamX.among_app _ ht hcv with z | z
        · obtain ⟨c0, e1, e2⟩ := ha p' cv z
          exact ⟨c0, e1, hE _ _ e2 LamX.codeO_ne⟩
        · exact ⟨c', z, upd_same⟩
      · obtain ⟨ps', a1, a2, a3⟩ := hT p hp
        refine ⟨ps', by rw [upd_ne (ne_of_none a1 nC), upd_ne hb]; exact a1, a2, fun p' cv hcv => ?_⟩
        obtain ⟨c0, e1, e2⟩ := a3 p' cv hcv
        exact ⟨c0, e1, hE _ _ e2 LamX.codeO_ne⟩
    have n1 : h'.objs.size ≠ c' := Nat.ne_of_gt hlt
    have n2 : h'.objs.size ≠ P := Nat.ne_of_gt (Nat.lt_of_lt_of_le (Heap.lt_size hP') hsz)
    have hfn : upd (upd H P (.tbl (ps ++ #[rawInt pos.line, rawInt pos.col, .ref c']))) c' (LamX.CodeO c' (X.env.qual ++ "<lambda>")) h'.objs.size = none := by
      rw [upd_ne n1, upd_ne n2]
      exact I.hok.fresh hsz
    have I2 := I1.laid (t' := tk) (h' := h'.push (PySem.W.kla_obj "<lambda>" (X.env.qual ++ "<lambda>") params body scope [] ((X.mg "__name__").getD .none) c' ctv)) (fun b o e => Heap.get?_push_of_some _ e) (Nat.le_refl _) (lamV_ok (F := ⟨X.env.qual ++ "<lambda>", params, body, scope⟩) (Heap.get?_push_size _ rfl))
    exact ⟨.ref h'.objs.size, _, I2, rfl, h h'.objs.size c' _ hE T1 hfn upd_same⟩
  | some cv =>
    obtain ⟨c', e, hco⟩ := ha pos cv hc
    subst e
    refine PySem.W.kla_makeFunctionHit (mg := X.mg) (c := c) (P := P) (ps := ps) (closure_ok hfree) I.ok.glob (I.mod.glob.keeps I.bk) hcode (TB.code.keeps I.bk) hP' ht hc bP fun ctv h' tk hx hsz => ?_
    rw [hclo]
    have I1 : Inv X pins σ H { s with heap := h', toks := tk } := I.kept fun b o e => hx b o e
    have hfn : H h'.objs.size = none := I.hok.fresh hsz
    have I2 := I1.laid (t' := tk) (h' := h'.push (PySem.W.kla_obj "<lambda>" (X.env.qual ++ "<lambda>") params body scope [] ((X.mg "__name__").getD .none) c' ctv)) (fun b o e => Heap.get?_push_of_some _ e) (Nat.le_refl _) (lamV_ok (F := ⟨X.env.qual ++ "<lambda>", params, body, scope⟩) (Heap.get?_push_size _ rfl))
    exact ⟨.ref h'.objs.size, _, I2, rfl, h h'.objs.size c' H (LamX.ExtN.refl H) hT hfn hco⟩
end
end DL

/-! function values on data; keywords -/
namespace DL
open L2 PySem PySem.Spec PyProof.Rows
open Evl (Ex ex_l ex_t sz_of)
section
variable {P : Program} {w : PySem.World} {mg : Str → Option Value} {base : Heap} {K : PySem.W.Frag} {T : Tb} {S : SA} {E : XK} {Hb H Hb1 H1 : Hp} {n n1 k : Nat} {te : TE} {FE : DT} {ta : TA} {GA : DTA}
abbrev LamP := FV → (D → Nat → DQ → DX → Prop) → Prop
/-- an argument that is a lambda: its promise is its own reading -/
def xaLam (LD : LamP) (j : Nat) (G : D → Nat → DQ → DX → Prop) (GA : DTA) : DTA := fun ρ n P XP => ρ[j]? = some .st ∧ ∀ F, LD F G → GA ρ n (fun ss n2 => P (.fv F :: ss) n2) XP
theorem rda_lamV {F : FV} {j : Nat} {LD : LamP} {G : D → Nat → DQ → DX → Prop} (ok : LD F G) (h2 : RdA K T S E ta GA) : RdA K T S E (tCons (tLamV T F) ta) (xaLam LD j G GA) := fun σ ρ Hb H n P XP Q wd sl h q x => by
  obtain ⟨ej, h⟩ := h
  refine ⟨wd.tabs, fun f c H1 eN T1 hf hc => ?_⟩
  have s0 : Stp K T S Hb H n Hb H1 n := .lam wd eN T1
  have sl0 := sl.step s0
  obtain ⟨o, e1, e2, st⟩ := sl0.ok j _ ej
  obtain ⟨g1, g2, ls, cs, m, t, g3, g4, g5, g6, g7, g8, rest⟩ := st
  have s1 : Stp K T S Hb H1 n (upd Hb f (LamV F c f)) (upd H1 f (LamV F c f)) n := .new s0.wd hf lamV_tbl
  have hcf : c ≠ f := fun z => by rw [z, hf] at hc; cases hc
  have nca : c ≠ S.a := fun z => by
    rw [z, g6] at hc
    exact codeO_no (o := .dK _) (fun _ z => by cases z) (Option.some.inj hc)
  have ncl : c ≠ S.l := fun z => by
    rw [z, g7] at hc
    exact codeO_no (o := .lst _) (fun _ z => by cases z) (Option.some.inj hc)
  have sO : SlotOk K S (upd Hb f (LamV F c f)) (upd H1 f (LamV F c f)) n (.fv F) (some (.ref f)) := ⟨f, c, rfl, upd_same, by rw [upd_ne hcf]; exact hc, fun o z => by
    rw [upd_ne hcf] at z
    have y := s0.wd.ex _ _ z
    rw [hc] at y
    exact (Option.some.inj y).symm, nca, ncl⟩
  exact h2 σ ρ _ _ n _ XP _ s1.wd (sl0.step s1) (h F ok) (fun ss vs n2 Hb2 H2 s2 ha p2 => q _ _ n2 Hb2 H2 ((s0.trans s1).trans s2) (.cons (s := .fv F) (sO.step s2) ha) p2) ((x.step s0).step s1)
/-- x(e), x a name that holds such a lambda -/
def xCallV (LD : LamP) (i : Nat) (FE : DT) : DT := fun ρ n P XP => ∃ F G, ρ[i]? = some (.fv F) ∧ LD F G ∧ FE ρ n (fun d n1 => G d n1 P XP) XP
theorem rd_callV {i : Nat} (h1 : DL.Rd K T S E te FE) : DL.Rd K T S E (tCallV P w K mg base k i (tCons te tNil) E) (xCallV (LamOkD P w K mg base T k) i FE) := fun σ ρ Hb H n P' XP Q wd sl h q x => by
  obtain ⟨F, G, ei, ok, h⟩ := h
  obtain ⟨o, e1, f, c, e2, hf, hc, hb, na, nl⟩ := sl.ok i _ ei
  refine ⟨f, c, F, _, by rw [e1, e2], wd.ex _ _ hf, ok, ?_⟩
  refine h1 σ ρ Hb H n _ XP _ wd sl h (fun d v n1 Hb1 H1 s hd p => ?_) x
  obtain ⟨o', e1', f', c', e2', hf', hc', _⟩ := (sl.step s).ok i _ ei
  rw [e1] at e1'
  cases e1'
  rw [e2] at e2'
  cases e2'
  have ec : H1 c = some (LamX.CodeO c F.q) := by
    obtain ⟨f2, c2, y1, y2, y3, y4, y5, y6⟩ := SlotOk.step s (s := .fv F) (o := o) ⟨f, c, e2, hf, hc, hb, na, nl⟩
    rw [e2] at y1
    cases y1
    have hfb := s.ex _ _ hf
    cases hcb : Hb c with
    | none => exact (s.own c _ hc hcb na nl (fun ps z => by unfold LamX.CodeO at z; cases z)).1
    | some oo =>
      have z := hb oo hcb
      subst z
      exact s.wd.ex _ _ (s.ex _ _ hcb)
  exact ⟨s.wd.ex _ _ (s.ex _ _ hf), ec, v, rfl, S, Hb1, n1, [.d d], P', XP, s.wd, .cons ⟨v, rfl, hd⟩ .nil, ⟨d, rfl, p⟩, q.step s, x.step s⟩
/-! ### functions as data -/
theorem rd_fnv {f : Addr} : DL.Rd K T S E (tC (.ref f)) (xC (.fnv f)) := fun σ ρ Hb H n P XP Q w sl h q _ => q.now w (.fnv f) h
def tCallE (P : Program) (w : PySem.World) (K : PySem.W.Frag) (mg : Str → Option Value) (base : Heap) (k : Nat) (tf : TE) (t : TA) : TE := fun σ H Q => tf σ H fun x H1 => ∃ f sp, x = .ref f ∧ Held P w K mg base k f sp ∧ t σ H1 fun vs H2 => sp vs H2 Q (fun _ _ _ => False)
theorem pe_callE {X : Cx} {fe e : Expr} {tf : TE} {pos : Pos} (hf : PE X fe tf) (hr : Room k X.A) (ha : PA X [e] ta)
    (hev : eval (.Call fe [e] [] pos) X.env = (do
      let f ← eval fe X.env
      callWith pos f [] (backTo pos (starEach [e] X.env)) (backToKw pos (keywordEach [] X.env))) := by rfl)
    (he : starEach [e] X.env = (false, eval e X.env) :: starEach [] X.env := by rfl) (hpl : (backTo pos (starEach ([] : List Expr) X.env)).any (·.1) = false := by rfl) : PE X (.Call fe [e] [] pos) (tCallE X.prog X.w X.K X.mg X.base k tf ta) := by
  refine ⟨fun pins s σ H Q I h => ?_⟩
  rw [hev]
  refine wpAny_bind (thn (hf.run pins s σ H _ I h) fun u s1 ⟨x, H1, I1, r1, f, sp, ex, hd, q⟩ => ?_)
  subst ex
  obtain rfl : u = Value.ref f := r1
  obtain ⟨fd, ps, F, hk, hb⟩ := hd.ex
  refine PySem.W.callWith_K (h₀ := X.base) I1.ok.mod.kin hk (thn (ha.run pos pins s1 σ _ _ I1 q) fun us s2 ⟨vs, H2, I2, r, q2⟩ => ⟨I2.kIn, ?_⟩) he hpl
  exact run_fn (dvs := []) F hr hb .nil (fun _ _ _ _ _ _ _ z => z.elim) I2 r (by rw [List.append_nil]; exact q2)
abbrev HldP := Addr → DSp0 → Prop
def HeldD (P : Program) (w : PySem.World) (K : PySem.W.Frag) (mg : Str → Option Value) (base : Heap) (T : Tb) (k : Nat) : HldP := fun f DS => Held P w K mg base k f (sp0 K T DS)
def xCallE (HD : HldP) (FF : DT) (GA : DTA) : DT := fun ρ n P XP => FF ρ n (fun d n1 => match d with
  | .fnv f => ∃ DS, HD f DS ∧ GA ρ n1 (fun ss n2 => noOl ss = true ∧ DS ss n2 P) XP
  | _ => False) XP
theorem rd_callE {tf : TE} {FF : DT} (h1 : DL.Rd K T S E tf FF) (h2 : RdA K T S E ta GA) : DL.Rd K T S E (tCallE P w K mg base k tf ta) (xCallE (HeldD P w K mg base T k) FF GA) := fun σ ρ Hb H n P' XP Q wd sl h q x =>
  h1 σ ρ Hb H n _ XP _ wd sl h (fun d v n1 Hb1 H1 s hd p => by
    cases hd with
    | fnv f =>
      obtain ⟨DS, hD, p⟩ := p
      refine ⟨f, _, rfl, hD, ?_⟩
      exact h2 σ ρ Hb1 H1 n1 _ XP _ s.wd (sl.step s) p (fun ss vs n2 Hb2 H2 s2 ha p2 => ⟨S, Hb2, n2, ss, P', xF, s2.wd, ha, p2, (q.step s).step s2, .none⟩) (x.step s)
    | _ => exact p.elim) x

/-! ### keywords -/
def gpI {α : Type} : List Nat → List α → List α
  | [], _ => []
  | i :: is, ws => match ws[i]? with
    | some w => w :: gpI is ws
    | none => gpI is ws
def gp {α : Type} (ix : List Nat) (us ws : List α) : List α := us ++ gpI ix ws
theorem vals_get {zs : List V} {ws : List Value} (h : Vals zs ws) : ∀ i : Nat, (∃ z w, zs[i]? = some z ∧ ws[i]? = some w ∧ L2.RelV z w) ∨ (zs[i]? = none ∧ ws[i]? = none) := by
  induction h with
  | nil => intro i; right; simp
  | @cons z w zs ws r _ ih =>
    intro i
    cases i with
    | zero => exact .inl ⟨z, w, rfl, rfl, r⟩
    | succ i => simpa using ih i
theorem gpI_rel {zs : List V} {ws : List Value} (h : Vals zs ws) : ∀ ix : List Nat, Vals (gpI ix zs) (gpI ix ws)
  | [] => .nil
  | i :: ix => by
    unfold gpI
    rcases vals_get h i with ⟨z, w, e1, e2, r⟩ | ⟨e1, e2⟩
    · rw [e1, e2]
      exact .cons r (gpI_rel h ix)
    · rw [e1, e2]
      exact gpI_rel h ix
theorem gp_rel {ix : List Nat} {vs : List V} {us : List Value} {zs : List V} {ws : List Value} (h : Vals vs us) (g : Vals zs ws) : Vals (gp ix vs zs) (gp ix us ws) := h.append (gpI_rel g ix)
theorem Args.getI {ss : List SV} {vs : List V} (h : Args K S Hb H n ss vs) : ∀ i : Nat, (∃ s v, ss[i]? = some s ∧ vs[i]? = some v ∧ SlotOk K S Hb H n s (some v)) ∨ (ss[i]? = none ∧ vs[i]? = none) := by
  induction h with
  | nil => intro i; right; simp
  | @cons s v ss vs r _ ih =>
    intro i
    cases i with
    | zero => exact .inl ⟨s, v, rfl, rfl, r⟩
    | succ i => simpa using ih i
theorem Args.gpI {ss : List SV} {vs : List V} (h : Args K S Hb H n ss vs) : ∀ ix : List Nat, Args K S Hb H n (DL.gpI ix ss) (DL.gpI ix vs)
  | [] => .nil
  | i :: ix => by
    unfold DL.gpI
    rcases h.getI i with ⟨z, w, e1, e2, r⟩ | ⟨e1, e2⟩
    · rw [e1, e2]
      exact .cons r (Args.gpI h ix)
    · rw [e1, e2]
      exact Args.gpI h ix
theorem Args.append {ss ts : List SV} {vs us : List V} (h : Args K S Hb H n ss vs) (g : Args K S Hb H n ts us) : Args K S Hb H n (ss ++ ts) (vs ++ us) := by
  induction h with
  | nil => exact g
  | cons r _ ih => exact .cons r ih
def xCallKw (D0 : DSp) (a b : Nat) (ix : List Nat) (G Gk : DTA) : DT := fun ρ n P XP => G ρ n (fun ss n1 => Gk ρ n1 (fun ts n2 => ss.length = a ∧ ts.length = b ∧ D0 (gp ix ss ts) n2 P XP) XP) XP
def dsX (DS : DSp) : DSp := fun ss n P XP => noOl ss = true ∧ DS ss n P XP
def ds0 (DS : DSp0) : DSp := fun ss n P _ => noOl ss = true ∧ DS ss n P
theorem rd_callKw {D0 : DSp} {ix : List Nat} {a b : Nat} {tk : TA} {G Gk : DTA} {E' : XK} (h1 : RdA K T S E ta G) (h2 : RdA K T S E tk Gk) :
    DL.Rd K T S E (tCallN a b (spOf K T D0) (gp ix) E ta tk) (xCallKw D0 a b ix G Gk) := fun σ ρ Hb H n P XP Q wd sl h q x =>
  h1 σ ρ Hb H n _ XP _ wd sl h (fun ss vs n1 Hb1 H1 s ha p => h2 σ ρ Hb1 H1 n1 _ XP _ s.wd (sl.step s) p (fun ts us n2 Hb2 H2 s2 hb p2 => by
    obtain ⟨e1, e2, p2⟩ := p2
    exact ⟨by rw [← ha.len]; exact e1, by rw [← hb.len]; exact e2, S, Hb2, n2, gp ix ss ts, P, XP, s2.wd, (ha.step s2).append (hb.gpI ix), p2, (q.step s).step s2, (x.step s).step s2⟩) (x.step s)) x
/-- where it does not raise -/
theorem rd_callKwN {D0 : DSp} {ix : List Nat} {a b : Nat} {tk : TA} {G Gk : DTA} {E' : XK} (h1 : RdA K T S E ta G) (h2 : RdA K T S E tk Gk) :
    DL.Rd K T S E (tCallN a b (spOf K T D0) (gp ix) E0 ta tk) (xCallKw (fun ss n P _ => D0 ss n P xF) a b ix G Gk) := fun σ ρ Hb H n P XP Q wd sl h q x =>
  h1 σ ρ Hb H n _ XP _ wd sl h (fun ss vs n1 Hb1 H1 s ha p => h2 σ ρ Hb1 H1 n1 _ XP _ s.wd (sl.step s) p (fun ts us n2 Hb2 H2 s2 hb p2 => by
    obtain ⟨e1, e2, p2⟩ := p2
    exact ⟨by rw [← ha.len]; exact e1, by rw [← hb.len]; exact e2, S, Hb2, n2, gp ix ss ts, P, xF, s2.wd, (ha.step s2).append (hb.gpI ix), p2, (q.step s).step s2, .none⟩) (x.step s)) x
end
section
variable {X : Cx} {CX : CXT} {k : Nat} {f : Addr} {fd : FuncData} {ps ks : List Str} {sp : Sp} {E : XK} {x : Str} {p pos : Pos} {kws : List Keyword} {tk : TA} {g : List Value → List Value → List Value} {gV : List V → List V → List V}
/-- f(k = v, ..) -/
theorem pe_callN0 (F : FnOk X.prog X.w X.K X.mg X.base CX k f fd ps sp) (hr : Room k X.A) (hg : Gl X x) (hm : X.mg x = some (.ref f)) (hk : PySem.W.keepIn X.K (.ref f) = true) (hb : KBn X.K fd ps 0 ks g gV) (hx : Passes CX X E)
    (hkw : PK X kws tk) (hall : (backToKw pos (keywordEach kws X.env)).all (·.1.isSome) = true := by rfl) (hks : (backToKw pos (keywordEach kws X.env)).filterMap (·.1) = ks := by rfl)
    (hdb : (x == ("__debug__" : Str)) = false := by decide)
    (hpl : ((backTo pos (starEach [] X.env)).any (·.1) || (backToKw pos (keywordEach kws X.env)).any (·.1.isNone)) = false := by rfl) :
    PE X (.Call (.Name x p) [] kws pos) (tCallN 0 ks.length sp gV E tNil tk) := by
  refine ⟨fun pins s σ H Q I h => ?_⟩
  refine wpAny_Call_Name_kw (ld_glob I hg hm ?_ hdb)
  refine PySem.W.callWith_KW0 (h₀ := X.base) I.ok.mod.kin hk hall ?_ hpl
  refine thn (hkw.run pos pins s σ H _ I h) fun ws s2 ⟨zs, H2, I2, rz, l1, l2, q2⟩ => ⟨I2.kIn, ?_⟩
  rw [hks]
  exact run_fnN (us := []) (vs := []) F hr hb hx I2 .nil rz rfl l2 q2
end
section
variable {K : PySem.W.Frag} {x qual : Str} {st : Stmt} {f : Addr} {fd : FuncData} {ps ks : List Str} {n : Nat} {ix : List Nat}
theorem kbn_of (F : L2.Fun K x qual st f fd) (h : ∀ (kV doc pm : Value) (an : Option Addr) (cdv ct : Value) (us ws : List Value), us.length = n → ws.length = ks.length → bindArgs (PySem.W.fnOf x qual (defArgs st) (defBody st) (defScope st) .none kV doc pm an cdv ct) ⟨us, ks.zip ws⟩ = pure (ps.zip (gp ix us ws))) : KBn K fd ps n ks (gp ix) (gp ix) := by
  obtain ⟨oc, od, kV, doc, pm, an, cdv, ct, osl, rfl, lk, hcd⟩ := F.ex
  exact ⟨fun s us ws _ h1 h2 => .of_eq (h kV doc pm an cdv ct us ws h1 h2), fun a b => gp_rel a b⟩
/-- a def as it stands, for calls by keywords too -/
def HasF (P : Program) (w : PySem.World) (K : PySem.W.Frag) (mg : Str → Option Value) (base : Heap) (CX : CXT) (k : Nat) (name : Str) (st : Stmt) (ps : List Str) (sp : Sp) : Prop :=
  ∃ f fd, FnOk P w K mg base CX k f fd ps sp ∧ mg name = some (.ref f) ∧ PySem.W.keepIn K (.ref f) = true ∧ Binds K fd ps [] ∧ L2.Fun K name name st f fd
theorem HasF.has {P : Program} {w : PySem.World} {mg : Str → Option Value} {base : Heap} {CX : CXT} {k : Nat} {name : Str} {sp : Sp} (h : HasF P w K mg base CX k name st ps sp) : Has P w K mg base CX k name ps sp := by
  obtain ⟨f, fd, a, b, c, d, _⟩ := h
  exact ⟨f, fd, a, b, c, d⟩
end
end DL

/-! t[::-1] of a tuple; xs != [] whatever the items; sorted of ints -/
namespace HT
open PySem PySem.Spec PyProof.Rows
section
variable {prog : Program} {w : World} {A : Around} {E : Value → Shared → Prop} {s : Shared}
theorem places_rev (n : Nat) : Builtin.Slice.slicePlaces ((n : Int) - 1) (-1) (-1) = n := by
  unfold Builtin.Slice.slicePlaces
  rw [if_neg (by decide)]
  by_cases h : ((n : Int) - 1 > -1)
  · rw [if_pos h]
    have e : ((n : Int) - 1 - -1 - 1) / (-(-1)) + 1 = n := by
      rw [show (-(-1) : Int) = 1 by decide, Int.ediv_one]
      omega
    rw [e]
    simp
  · rw [if_neg h]
    have : n = 0 := by omega
    subst this
    rfl
theorem sliceApplied_rev {sl : Addr} {vl vu vs : Value} {n : Nat} {Q : Int × Int × Nat → Shared → Prop} (hs : s.heap.IsSliceOf sl vl vu vs) (pl : IsPart vl none) (pu : IsPart vu none) (ps : IsPart vs (some (-1)))
    (h : Q ((n : Int) - 1, -1, n) s) : wpAny (model prog w) A (Builtin.Slice.sliceApplied (.ref sl) (pure (n : Int))) Q E s := by
  obtain ⟨os, hos, hcs, hds⟩ := id hs
  unfold Builtin.Slice.sliceApplied Builtin.Slice.sliceFields
  refine wpAny_bind (wpAny_bind (wpAny_field hos hds (x := vl) rfl (wpAny_bind (wpAny_field hos hds (x := vu) rfl (wpAny_bind (wpAny_field hos hds (x := vs) rfl (wpAny_pure ?_)))))))
  refine wpAny_bind (slicePart_ ps ?_)
  show wpAny _ _ (if ((-1 : Int) == 0) = true then _ else _) _ _ s
  rw [if_neg (by decide)]
  refine wpAny_bind (slicePart_ pl (wpAny_bind (slicePart_ pu (wpAny_bind (wpAny_pure ?_)))))
  show wpAny _ _ (pure ((n : Int) - 1, (-1 : Int), Builtin.Slice.slicePlaces ((n : Int) - 1) (-1) (-1))) _ _ s
  rw [places_rev]
  exact wpAny_pure h
theorem fm_eq {α β : Type} {f g : α → Option β} : ∀ (l : List α), (∀ k ∈ l, f k = g k) → l.filterMap f = l.filterMap g
  | [], _ => rfl
  | x :: l, h => by
    rw [List.filterMap_cons, List.filterMap_cons, h x (.head _), fm_eq l fun k q => h k (.tail _ q)]
theorem fm_some {α β : Type} (g : α → β) : ∀ l : List α, l.filterMap (fun k => some (g k)) = l.map g
  | [] => rfl
  | x :: l => by
    rw [List.filterMap_cons, List.map_cons, fm_some g l]
theorem pick_rev (xs : Array Value) : ((List.range xs.size).filterMap fun (k : Nat) => xs[((xs.size : Int) - 1 + (k : Int) * -1).toNat]?).toArray = xs.toList.reverse.toArray := by
  congr 1
  have e : ((List.range xs.size).filterMap fun (k : Nat) => xs[((xs.size : Int) - 1 + (k : Int) * -1).toNat]?) = (List.range xs.size).filterMap fun k => some (xs.toList.reverse.getD k .none) := by
    refine fm_eq _ fun k hk => ?_
    have hk' := List.mem_range.mp hk
    have e1 : ((xs.size : Int) - 1 + (k : Int) * -1).toNat = xs.size - 1 - k := by omega
    rw [e1]
    rw [Array.getElem?_eq_getElem (by omega)]
    rw [List.getD_eq_getElem?_getD, List.getElem?_reverse (by simpa using hk')]
    simp only [Array.length_toList]
    rw [List.getElem?_eq_getElem (by simp; omega)]
    simp
  rw [e, fm_some]
  apply List.ext_getElem?
  intro i
  by_cases hi : i < xs.size
  · rw [List.getElem?_map, List.getElem?_range hi]
    simp only [Option.map_some]
    rw [List.getD_eq_getElem?_getD, List.getElem?_eq_getElem (by simpa using hi)]
    rfl
  · rw [List.getElem?_eq_none (by simp; omega), List.getElem?_eq_none (by simp; omega)]
theorem getItem_tuple_rev {t sl : Addr} {items : Array Value} {vl vu vs : Value} {Q : Value → Shared → Prop} (ht : IsTup s.heap t items) (hs : s.heap.IsSliceOf sl vl vu vs) (pl : IsPart vl none) (pu : IsPart vu none) (ps : IsPart vs (some (-1)))
    (h : Q (.ref s.heap.objs.size) { s with heap := s.heap.push { cls := .type "tuple", data := .seq items.toList.reverse.toArray } }) (hsz : items.size ≤ sizeLine) : wpAny (model prog w) A (getItem (.ref t) (.ref sl)) Q E s := by
  have htake : sizeOk (.seq items.toList.reverse.toArray) := by
    show items.toList.reverse.toArray.size ≤ sizeLine
    rw [List.size_toArray, List.length_reverse, Array.length_toList]
    exact hsz
  obtain ⟨os, hos, hcs, hds⟩ := id hs
  have hTs : s.TypeIs (.ref sl) "slice" := ⟨os, hos, hcs⟩
  unfold getItem
  try with_reducible refine wpAny_holding ?_
  first | refine wpAny_bind (wpAny_pure ?_) | skip
  refine wpAny_bind (wpAny_sequenceKey ht.typeIs (by decide) ?_)
  refine wpAny_bind (wpAny_callSpecial?_slot (name := Str.ofString "__getitem__") ht.typeIs PyProof.Rows.slot_tuple_getitem
    (wpAny_call_entry PyProof.Rows.slot_tuple_getitem ht.typeIs entry_tuple_getitem ?_ (args_tuple_getitem _ _)))
  show wpAny _ _ (Builtin.Tuple.tupleItemsOf (.ref t) >>= _) _ _ s
  refine wpAny_bind (tupleItemsOf_ ht ?_)
  refine wpAny_bind (wpAny_typeOf hTs ?_)
  rw [if_pos (by decide)]
  refine wpAny_bind (sliceApplied_rev hs pl pu ps ?_)
  have hno : ¬ ((((items.size : Int) - 1) == 0 && (-1 : Int) == 1 && items.size == items.size) = true) := by
    intro q
    rw [Bool.and_eq_true, Bool.and_eq_true] at q
    exact absurd q.1.2 (by decide)
  show wpAny _ _ (if (((items.size : Int) - 1) == 0 && (-1 : Int) == 1 && items.size == items.size) = true then _ else _) _ _ s
  rw [if_neg hno, pick_rev]
  first
    | exact wpAny_bind (m := Builtin.Tuple.tupleExact _) (wpAny_newObj_type (wpAny_pure ⟨_, rfl, wpAny_pure h⟩) htake)
    | exact wpAny_bind (m := Builtin.Tuple.tupleExact _) (wpAny_newObj_type (wpAny_bind (wpAny_pure (wpAny_pure ⟨_, rfl, wpAny_pure h⟩))) htake)
    | exact wpAny_bind (wpAny_bind (m := Builtin.Tuple.tupleExact _) (wpAny_newObj_type (wpAny_pure (wpAny_pure ⟨_, rfl, wpAny_pure h⟩)) htake))
    | exact wpAny_bind (wpAny_bind (m := Builtin.Tuple.tupleExact _) (wpAny_newObj_type (wpAny_pure ⟨_, rfl, wpAny_pure h⟩) htake))
end
end HT
namespace DL
open L2 PySem PySem.Spec PyProof.Rows
open Evl (Ex ex_l ex_t sz_of)
/-! ### t[::-1] -/
def tRevT (K : PySem.W.Frag) (te : TE) : TE := fun σ H Q => te σ H fun x H1 => ∃ a xs, x = .ref a ∧ SqT K H1 a xs ∧ ∀ p, H1 p = none → Q (.ref p) (upd H1 p (.tup xs.reverse))
theorem pe_revT {X : Cx} {e : Expr} {te : TE} {k : Nat} {p1 p2 p3 pos : Pos} (he : PE X e te) : PE X (.Subscript e (.Slice none none (some (.UnaryOp .USub (.Constant (.int 1) k p1) p2)) p3) pos) (tRevT X.K te) := by
  refine ⟨fun pins s σ H Q I h => ?_⟩
  refine Subscript_ (thn (he.run pins s σ H _ I h) fun v s1 ⟨x, H1, I1, r1, q1⟩ => ?_)
  obtain ⟨a, xs, ex, hx, q⟩ := q1
  subst ex
  cases r1
  have hst : PO X (some (.UnaryOp .USub (.Constant (.int 1) k p1) p2)) (tPart (tUn (rU fun i => .int (-i)) (tC (.int 1)))) := po_some (pe_un un_neg pe_int)
  refine wpAny_Slice (thn (po_none.run pins s1 σ H1 (fun o H2 => o = none ∧ H2 = H1) I1 ⟨rfl, rfl⟩) fun vl s2 ⟨l, H2, I2, pl, el, e2⟩ => ?_)
  subst el e2
  refine thn (po_none.run pins s2 σ H2 (fun o H3 => o = none ∧ H3 = H2) I2 ⟨rfl, rfl⟩) fun vu s3 ⟨u, H3, I3, pu, eu, e3⟩ => ?_
  subst eu e3
  refine thn (hst.run pins s3 σ H3 (fun o H4 => o = some (-1) ∧ H4 = H3) I3 ⟨1, rfl, -1, rfl, rfl, rfl⟩) fun vs s4 ⟨o, H4, I4, ps, eo, e4⟩ => ?_
  subst eo e4
  have I5 : Inv X pins σ H4 { s4 with heap := s4.heap.push { cls := .type "slice", data := .fields #[vl, vu, vs] } } := I4.kept (t' := s4.toks) fun b ob q => Heap.get?_push_of_some _ q
  obtain ⟨its, r, ht, hz⟩ := I5.tuple hx
  have hlen := r.length
  show wpAny (model X.prog X.w) X.A (subscriptTail e (.Slice none none (some (.UnaryOp .USub (.Constant (.int 1) k p1) p2)) p3) (.ref a) (.ref s4.heap.objs.size)) (EP X pins σ Q) X.xe { s4 with heap := s4.heap.push { cls := .type "slice", data := .fields #[vl, vu, vs] } }
  refine tail_any (ops := [.ref a, .ref s4.heap.objs.size]) ht.typeIs (PyProof.Rows.slot_tuple_getitem.lookup) ?_ (by with_unfolding_all rfl)
  refine HT.getItem_tuple_rev ht (Heap.IsSliceOf.new _ vl vu vs) pl pu ps ?_ (by rw [List.size_toArray]; omega)
  refine ⟨.ref _, _, I5.laid (t' := s4.toks) (o := .tup xs.reverse) (fun b ob q => Heap.get?_push_of_some _ q) (Nat.le_refl _) ?_, rfl, q _ (I5.hok.fresh (Nat.le_refl _))⟩
  exact ⟨by rw [List.length_reverse]; exact hz, _, by simpa using r.reverse, IsTup.new _ _⟩
section
variable {K : PySem.W.Frag} {T : Tb} {S : SA} {E : XK} {Hb H Hb1 H1 : Hp} {n n1 : Nat} {te : TE} {FE : DT}
theorem DnA.rev {vs : List V} {ds : List D} (h : DnA K H vs ds) : DnA K H vs.reverse ds.reverse := by
  induction vs generalizing ds with
  | nil => cases h; exact .nil
  | cons v vs ih =>
    cases h with
    | cons h1 h2 =>
      rw [List.reverse_cons, List.reverse_cons]
      exact (ih h2).app (.one h1)
def xRevT (F : DT) : DT := fun ρ n P XP => F ρ n (fun d n1 => match d with | .tup xs => P (.tup xs.reverse) n1 | _ => False) XP
theorem rd_revT (h1 : DL.Rd K T S E te FE) : DL.Rd K T S E (tRevT K te) (xRevT FE) := fun σ ρ Hb H n P XP Q w sl h q x =>
  h1 σ ρ Hb H n _ XP _ w sl h (fun d v n1 Hb1 H1 s hd p => by
    cases hd with
    | @tup a vs ds g1 g2 => exact ⟨a, vs, rfl, ex_t s.wd.ex g1, fun l hl => (q.step s).new s.wd hl (.tup (SqT.of upd_same) (g2.rev.up (Ex.new (free_of s.wd.ex hl)))) p⟩
    | _ => exact p.elim) x
/-! ### xs != [] -/
def rNeNil (K : PySem.W.Frag) : R2 := fun x y H Q => ∃ a b xs, x = .ref a ∧ y = .ref b ∧ SqL K H a xs ∧ SqL K H b [] ∧ Q (.bl (!xs.isEmpty)) H
theorem op_neNil {X : Cx} (hu : X.A.units + 64 < cLine) : OpR X (compareOp .NotEq) (rNeNil X.K) := by
  intro pins s σ H x y v u Q I rx ry h
  obtain ⟨a, b, xs, rfl, rfl, ha, hb, q⟩ := h
  cases rx
  cases ry
  obtain ⟨its, r1, p1, _⟩ := I.list ha
  obtain ⟨its2, r2, p2, _⟩ := I.list hb
  have hu0 : X.A.units < cLine := Nat.lt_of_le_of_lt (Nat.le_add_right _ _) hu
  have e2 : its2 = [] := by
    cases r2
    rfl
  subst e2
  cases xs with
  | nil =>
    have e1 : its = [] := by
      cases r1
      rfl
    subst e1
    exact SeqAt.RcNeAt.lists (e := fun _ => true) p1.isList p2.isList rfl hu0 (fun j h1 h2 => by simp at h1) X.prog X.w _ _ ⟨.bl _, H, I, rfl, q⟩
  | cons x xs =>
    have hl := r1.length
    exact SeqAt.RcNeAt.lists_lengths p1.isList p2.isList (by simp; intro z; rw [z] at hl; simp at hl) hu0 X.prog X.w _ _ ⟨.bl _, H, I, rfl, q⟩
def neNilD : D → D → (D → Prop) → Prop := fun a b k => match a, b with
  | .lst xs, .lst [] => k (.bl (!xs.isEmpty))
  | _, _ => False
theorem o2_neNil : Op2 K (rNeNil K) neNilD := by
  intro T S x y a b Hb H n P Q w hx hy h q
  unfold neNilD at h
  split at h
  · cases hx with
    | @lst p vs ds g1 g2 =>
      cases hy with
      | @lst p2 vs2 ds2 g3 g4 =>
        cases g4
        refine ⟨p, p2, vs, rfl, rfl, ex_l w.ex g1, ex_l w.ex g3, q.now w (.bl _) ?_⟩
        cases g2 with
        | nil => exact h
        | cons _ _ => exact h
  · exact h.elim
/-! ### sorted of ints -/
theorem ints_of : ∀ {ns : List Int} {vs : List V}, DnA K H vs (ns.map D.int) → vs = ns.map V.int
  | [], _, h => by cases h; rfl
  | n :: ns, _, h => by
    cases h with
    | cons h1 h2 =>
      cases h1
      rw [ints_of h2]
      rfl
def sortD : D → (D → Prop) → Prop := fun d k => match d with
  | .lst xs => ∃ ns : List Int, xs = ns.map D.int ∧ ∀ ns' : List Int, ns'.Perm ns → ns'.Pairwise (· ≤ ·) → k (.lst (ns'.map D.int))
  | _ => False
theorem cal_sorted : Cal K (rSortedI K) (one1 sortD) := by
  refine cal_one ?_
  intro T S v d Hb H n P Q w hv h q
  cases hv with
  | @lst a vs ds g1 g2 =>
    obtain ⟨ns, rfl, h⟩ := h
    have e := ints_of g2
    subst e
    exact ⟨a, ns, rfl, ex_l w.ex g1, fun ns' p h1 h2 hp => q.new w hp (.lst (SqL.of upd_same) (DnA.ints ns')) (h ns' h1 h2)⟩
  | _ => exact h.elim
end
end DL

/-! list(range(n)); len(set(t)) of a tuple of ints; t == () of a tuple -/
namespace RZ
open L2 PySem PySem.Spec PyProof.Rows PySem.W Pv
def intsV (m : Nat) : List V := (List.range m).map fun (j : Nat) => V.int (j : Int)
def tListRng (ta : TA) : TE := fun σ H Q => ta σ H fun vs H1 => ∃ i : Int, vs = [.int i] ∧ 0 ≤ i ∧ i ≤ 100000 ∧ ∀ p, H1 p = none → Q (.ref p) (upd H1 p (.lst (intsV i.toNat)))
theorem vals_at : ∀ {vs : List V} {us : List Value}, vs.length = us.length → (∀ (j : Nat) (v : V) (u : Value), vs[j]? = some v → us[j]? = some u → L2.RelV v u) → Vals vs us
  | [], [], _, _ => .nil
  | v :: vs, u :: us, hl, h => .cons (h 0 v u rfl rfl) (vals_at (by simpa using hl) fun j v u a b => h (j + 1) v u a b)
theorem rel_ints {acc : Array Value} {m : Nat} (h : ItemsOf (fun i v => ∃ t, v = Value.int ((0 : Int) + (i : Int) * 1) t) acc m) : Vals (intsV m) acc.toList := by
  refine vals_at (by simp [intsV, h.1]) fun j v u a b => ?_
  obtain ⟨t, rfl⟩ := h.2 j u (by simpa using b)
  unfold intsV at a
  rw [List.getElem?_map] at a
  have hj : j < m := by
    apply Decidable.byContradiction
    intro z
    rw [List.getElem?_eq_none (by simp; omega)] at a
    cases a
  rw [List.getElem?_range hj] at a
  simp only [Option.map_some, Option.some.injEq] at a
  subst a
  exact ⟨t, by simp⟩
theorem pe_listRng {X : Cx} {e : Expr} {ta : TA} {p p2 pos pos2 : Pos} (hgl : Gl X "list") (hml : X.mg "list" = none) (hg : Gl X "range") (hm : X.mg "range" = none) (ha : PA X [e] ta)
    (hc : X.calm = true := by rfl)
    (na : starEach [.Call (.Name "range" p2) [e] [] pos2] X.env = (false, eval (.Call (.Name "range" p2) [e] [] pos2) X.env) :: starEach [] X.env := by rfl)
    (hs : starEach [e] X.env = (false, eval e X.env) :: starEach [] X.env := by rfl) (hpl : (backTo pos2 (starEach [] X.env)).any (·.1) = false := by rfl) :
    PE X (.Call (.Name "list" p) [.Call (.Name "range" p2) [e] [] pos2] [] pos) (tListRng ta) := by
  refine ⟨fun pins s σ H Q I h => ?_⟩
  refine Call_ (ld_blt I hgl hml PyProof.Rows.boot_list ?_)
  refine PyProof.Rows.callWith_type1 (PyProof.Rows.args_cons ?_ na) na rfl
  refine Call_ (ld_blt I hg hm PyProof.Rows.boot_range (PyProof.Rows.callWith_type1 (thn (ha.run pos2 pins s σ H _ I h) fun us s1 ⟨vs, H1, I1, r1, q1⟩ => ?_) hs hpl))
  obtain ⟨i, ex, h0, hi, q⟩ := q1
  subst ex
  cases r1 with
  | cons r rr =>
    cases rr
    obtain ⟨t, r⟩ := r
    subst r
    refine call_range_1 ?_
    refine PyProof.Rows.args_nil ?_
    have hsz : Builtin.Range.rangeSize 0 i 1 = (i.toNat : Int) := by rw [rangeSize_nat]; simp
    have hR : IsRange (s1.heap.push { cls := .type "range", data := .fields #[.int 0 s1.toks, .int i t, .int 1 (s1.toks + 1)] }) s1.heap.objs.size 0 i 1 s1.toks t (s1.toks + 1) := Heap.get?_push_size _ rfl
    have hsm : Builtin.Range.small 0 i 1 = true := by
      unfold Builtin.Range.small
      rw [hsz]
      unfold Builtin.Range.rangeFitsLong
      have a1 : (-2 ^ 63 : Int) ≤ i := by omega
      have a2 : i < (2 ^ 63 : Int) := by omega
      have a3 : (-2 ^ 63 : Int) ≤ ((i.toNat : Nat) : Int) := by omega
      have a4 : ((i.toNat : Nat) : Int) < (2 ^ 63 : Int) := by omega
      have a5 : (-2 ^ 63 : Int) ≤ i + (1 - 1) := by omega
      have a6 : i + (1 - 1) < (2 ^ 63 : Int) := by omega
      simp only [a1, a2, a3, a4, a5, a6, decide_true, Bool.and_self, Bool.and_true, Bool.true_and]
      simp
    refine call_list_range (I1.ok.hd hc) hR hsm hsz (by omega) fun h' tk acc c' hk hl hi => ?_
    have hkk : ∀ b o, s1.heap.get? b = some o → h'.get? b = some o := fun b o e => hk b o (Heap.get?_push_of_some _ e)
    have hle : s1.heap.objs.size ≤ s1.heap.objs.size + 1 := Nat.le_succ _
    have hps : (s1.heap.push { cls := .type "range", data := .fields #[.int 0 s1.toks, .int i t, .int 1 (s1.toks + 1)] }).objs.size = s1.heap.objs.size + 1 := by simp [Heap.push]
    rw [hps] at hl ⊢
    have hSH : H1 (s1.heap.objs.size + 1) = none := I1.hok.fresh hle
    have okF : HOk X.prog X.w (upd H1 (s1.heap.objs.size + 1) (.lst (intsV i.toNat))) h' := (I1.hok.kept hkk).laidN (fun _ _ q => q) hSH ⟨by simp only [intsV, List.length_map, List.length_range]; exact Nat.le_trans (m := 100000) (by omega) (by decide), acc.toList, c', rel_ints hi, by rw [hl]⟩
    exact ⟨.ref _, _, I1.un (t' := tk) (Un.more (Un.kept hkk) hle hSH) okF, rfl, q _ hSH⟩
/-- how many are different, told by its laws -/
theorem sub_len : ∀ {ks ns : List Int}, ks.Nodup → (∀ k ∈ ks, k ∈ ns) → ks.length ≤ ns.length
  | [], _, _, _ => Nat.zero_le _
  | k :: ks, ns, h, g => by
    obtain ⟨h1, h2⟩ := List.nodup_cons.mp h
    have z := sub_len (ks := ks) (ns := ns.erase k) h2 fun x hx => (List.mem_erase_of_ne (fun e => h1 (by rw [← e]; exact hx))).mpr (g x (.tail _ hx))
    rw [List.length_erase_of_mem (g k (.head _))] at z
    have := List.length_pos_of_mem (g k (.head _))
    simp only [List.length_cons]
    omega
theorem twice : ∀ {ns : List Int}, ¬ ns.Nodup → ∃ x ∈ ns, x ∈ ns.erase x
  | [], h => absurd .nil h
  | a :: l, h => by
    by_cases ha : a ∈ l
    · exact ⟨a, .head _, by rw [List.erase_cons_head]; exact ha⟩
    · obtain ⟨x, h1, h2⟩ := twice (ns := l) fun z => h (List.nodup_cons.mpr ⟨ha, z⟩)
      have : a ≠ x := fun e => ha (e ▸ h1)
      exact ⟨x, .tail _ h1, by rw [List.erase_cons_tail (by simpa using this)]; exact .tail _ h2⟩
theorem same_len {ks ns : List Int} (h : ks.Nodup) (g : ∀ k, k ∈ ks ↔ k ∈ ns) : ks.length = ns.length ↔ ns.Nodup := by
  constructor
  · intro e
    apply Decidable.byContradiction
    intro z
    obtain ⟨x, h1, h2⟩ := twice z
    have := sub_len (ks := ks) (ns := ns.erase x) h fun k hk => by
      by_cases e : k = x
      · rw [e]; exact h2
      · exact (List.mem_erase_of_ne e).mpr ((g k).mp hk)
    rw [List.length_erase_of_mem h1] at this
    have := List.length_pos_of_mem h1
    omega
  · intro hn
    exact Nat.le_antisymm (sub_len h fun k => (g k).mp) (sub_len hn fun k => (g k).mpr)
theorem vals_ints : ∀ {ns : List Int} {us : List Value}, Vals (ns.map V.int) us → IntsAre us ns
  | [], _, h => by cases h; exact .nil
  | n :: ns, _, h => by
    cases h with
    | cons r rr =>
      obtain ⟨t, r⟩ := r
      subst r
      exact .cons n t (vals_ints rr)
def tLenSet (K : PySem.W.Frag) (te : TE) : TE := fun σ H Q => te σ H fun x H1 => ∃ (a : Addr) (ns : List Int), x = .ref a ∧ SqT K H1 a (ns.map V.int) ∧ ns.length ≤ 2000 ∧ ∀ c : Nat, c ≤ ns.length → (c = ns.length ↔ ns.Nodup) → Q (.int (c : Int)) H1
theorem pe_lenSet {X : Cx} {e : Expr} {te : TE} {p p2 pos pos2 : Pos} (hgl : Gl X "len") (hml : X.mg "len" = none) (hg : Gl X "set") (hm : X.mg "set" = none) (he : PE X e te)
    (hc : X.calm = true := by rfl)
    (na : starEach [.Call (.Name "set" p2) [e] [] pos2] X.env = (false, eval (.Call (.Name "set" p2) [e] [] pos2) X.env) :: starEach [] X.env := by rfl)
    (hs : starEach [e] X.env = (false, eval e X.env) :: starEach [] X.env := by rfl) (hpl : (backTo pos2 (starEach [] X.env)).any (·.1) = false := by rfl) :
    PE X (.Call (.Name "len" p) [.Call (.Name "set" p2) [e] [] pos2] [] pos) (tLenSet X.K te) := by
  refine ⟨fun pins s σ H Q I h => ?_⟩
  refine Call_ (ld_blt I hgl hml PySem.boot_len ?_)
  refine PyProof.Rows.callWith_builtin1 (PyProof.Rows.args_cons ?_ na) na rfl
  refine Call_ (ld_blt I hg hm PyProof.Rows.boot_set (PyProof.Rows.callWith_type1 (PyProof.Rows.args_cons (thn (he.run pins s σ H _ I h) fun v s1 ⟨x, H1, I1, r1, q1⟩ => PyProof.Rows.args_nil ?_) hs) hs hpl))
  obtain ⟨a, ns, ex, ht, hl, q⟩ := q1
  subst ex
  cases r1
  obtain ⟨its, rv, p1, hz1⟩ := I1.tuple ht
  refine call_set_tupI ns (I1.ok.hd hc) p1 (by simpa using vals_ints rv) (Nat.lt_of_le_of_lt (Nat.add_le_add_right hl 1) (by decide)) fun h' tk c hS hc hk => ?_
  refine PyProof.Rows.args_nil ?_
  obtain ⟨o, es, ep, t, g1, g2, g3, g4, g5, g6, g7, g8, g9, _, _⟩ := hS
  have hcl : c = (es.toList.map keyOf).length := by rw [List.length_map, Array.length_toList, g9]
  refine call_len_set g1 g2 g3 g8 (by rw [g9]; omega) ?_
  rw [g9]
  refine ⟨.int c, H1, I1.un (t' := tk + 1 + 1) (Un.kept hk) (I1.hok.kept hk), ⟨_, rfl⟩, q c hc ?_⟩
  rw [hcl]
  exact same_len g5 fun k => by rw [← g6 k]; simp
/-! ### t == () -/
def rEqNilT (K : PySem.W.Frag) : R2 := fun x y H Q => ∃ a b xs, x = .ref a ∧ y = .ref b ∧ SqT K H a xs ∧ SqT K H b [] ∧ Q (.bl xs.isEmpty) H
theorem op_eqNilT {X : Cx} (hu : X.A.units + 64 < cLine) : OpR X (compareOp .Eq) (rEqNilT X.K) := by
  intro pins s σ H x y v u Q I rx ry h
  obtain ⟨a, b, xs, rfl, rfl, ha, hb, q⟩ := h
  cases rx
  cases ry
  obtain ⟨its, r1, p1, _⟩ := I.tuple ha
  obtain ⟨its2, r2, p2, _⟩ := I.tuple hb
  have hu0 : X.A.units < cLine := Nat.lt_of_le_of_lt (Nat.le_add_right _ _) hu
  have e2 : its2 = [] := by
    cases r2
    rfl
  subst e2
  have z := SeqAt.RcAt.tuples (e := fun _ => true) (show s.heap.IsTuple a its.toArray from p1) (show s.heap.IsTuple b [].toArray from p2) hu0 (fun j h1 h2 => by simp at h2)
  have e3 : ((List.range (min its.toArray.size (#[] : Array Value).size)).all (fun _ => true) && its.toArray.size == (#[] : Array Value).size) = xs.isEmpty := by
    have := r1.length
    cases xs <;> cases its <;> simp_all
  rw [e3] at z
  exact z X.prog X.w _ _ ⟨.bl _, H, I, rfl, q⟩
end RZ
namespace DL
open L2 PySem PySem.Spec PyProof.Rows
open Evl (Ex ex_l ex_t sz_of)
section
variable {K : PySem.W.Frag} {T : Tb} {S : SA} {E : XK} {te : TE} {FE : DT}
def natsI (m : Nat) : List Int := (List.range m).map fun (j : Nat) => (j : Int)
def natsD (m : Nat) : List D := (natsI m).map D.int
theorem intsV_eq {m : Nat} : RZ.intsV m = (natsI m).map V.int := by unfold RZ.intsV natsI; rw [List.map_map]; rfl
def xListRng (G : DTA) : DT := fun ρ n P XP => G ρ n (fun ss n1 => ∃ i : Int, ss = [.d (.int i)] ∧ 0 ≤ i ∧ i ≤ 100000 ∧ P (.lst (natsD i.toNat)) n1) XP
theorem rd_listRng {ta : TA} {GA : DTA} (h1 : RdA K T S E ta GA) : DL.Rd K T S E (RZ.tListRng ta) (xListRng GA) := fun σ ρ Hb H n P XP Q w sl h q x =>
  h1 σ ρ Hb H n _ XP _ w sl h (fun ss vs n1 Hb1 H1 s ha p => by
    obtain ⟨i, rfl, h0, hi, p⟩ := p
    obtain ⟨v, rfl, hv⟩ := Args.one (ss := []) ha
    cases hv
    exact ⟨i, rfl, h0, hi, fun l hl => (q.step s).new s.wd hl (.lst (SqL.of upd_same) (by rw [intsV_eq]; exact DnA.ints _)) p⟩) x
def xLenSet (F : DT) : DT := fun ρ n P XP => F ρ n (fun d n1 => ∃ ns : List Int, d = .tup (ns.map D.int) ∧ ns.length ≤ 2000 ∧ ∀ c : Nat, c ≤ ns.length → (c = ns.length ↔ ns.Nodup) → P (.int (c : Int)) n1) XP
theorem rd_lenSet (h1 : DL.Rd K T S E te FE) : DL.Rd K T S E (RZ.tLenSet K te) (xLenSet FE) := fun σ ρ Hb H n P XP Q w sl h q x =>
  h1 σ ρ Hb H n _ XP _ w sl h (fun d v n1 Hb1 H1 s hd p => by
    obtain ⟨ns, rfl, hl, p⟩ := p
    cases hd with
    | @tup a vs ds g1 g2 =>
      have e := ints_of g2
      subst e
      exact ⟨a, ns, rfl, ex_t s.wd.ex g1, hl, fun c hc hn => (q.step s).now s.wd (.int _) (p c hc hn)⟩) x
def eqNilTD : D → D → (D → Prop) → Prop := fun a b k => match a, b with
  | .tup xs, .tup [] => k (.bl xs.isEmpty)
  | _, _ => False
theorem o2_eqNilT : Op2 K (RZ.rEqNilT K) eqNilTD := by
  intro T S x y a b Hb H n P Q w hx hy h q
  unfold eqNilTD at h
  split at h
  · cases hx with
    | @tup p vs ds g1 g2 =>
      cases hy with
      | @tup p2 vs2 ds2 g3 g4 =>
        cases g4
        refine ⟨p, p2, vs, rfl, rfl, ex_t w.ex g1, ex_t w.ex g3, q.now w (.bl _) ?_⟩
        cases g2 with
        | nil => exact h
        | cons _ _ => exact h
  · exact h.elim
end
end DL

/-! exceptions with one attribute as a class of the program; lambdas without free names -/
namespace DL
open L2 PySem PySem.Spec PyProof.Rows
def HasX1 (P : Program) (w : PySem.World) (K : PySem.W.Frag) (mg : Str → Option Value) (base : Heap) (C : Addr) (f : Str) : Prop :=
  ∃ (fI : Addr) (fd : FuncData) (a b : Str), OexC K C ∧ PySem.W.findIn K (.ref C) f = some none ∧ PySem.W.findIn K (.ref C) "__init__" = some (some (.ref fI)) ∧ PySem.W.typeIn K (.ref fI) = some (.type "function") ∧
    FnOk P w K mg base CX0 1 fI fd [a, b] (spX1 K C f) ∧ Binds K fd [a, b] []
theorem noFree {scope : Scope} {cells : List (Str × Addr)} (h : (scope.names.all fun y => match y.2 with | .free => false | _ => true) = true) : ∀ y ∈ scope.names, y.2 = .free → ∃ c, cells.lookup y.1 = some c := fun y hy e => by
  have z := List.all_eq_true.mp h y hy
  rw [e] at z
  cases z
end DL
namespace DL
open L2 PySem PySem.Spec PyProof.Rows
theorem HasHeld {P : Program} {w : PySem.World} {K : PySem.W.Frag} {mg : Str → Option Value} {base : Heap} {k m : Nat} {x : Str} {ps : List Str} {sp : Sp} {f : Addr} (h : Has P w K mg base CX0 k x ps sp) (g : mg x = some (.ref f)) (hk : k ≤ m) : Held P w K mg base m f sp := by
  obtain ⟨f', fd, a, b, c, d⟩ := h
  have e : (Value.ref f') = .ref f := Option.some.inj (b.symm.trans g)
  cases e
  exact ⟨⟨fd, ps, a.mono hk, c, d⟩⟩
end DL

/-! a, b, c = e1, e2, e3 -/
namespace DL
open L2 PySem PySem.Spec PyProof.Rows
open Evl (Ex ex_l ex_t sz_of)
theorem lamScope {q : Str} {ps : Arguments} {body : Expr} {scope : Scope} {N : List Str} {x : Str} (h : FnScope N [x] scope) : FnScope N [x] (FV.mk q ps body scope).scope := h
section
variable {K : PySem.W.Frag} {T : Tb} {S : SA} {E : XK} {Hb H : Hp} {n : Nat}
def xsPar3 (i j l : Nat) (G : DTA) : DTS := fun DD ρ n XP => G ρ n (fun ss n1 => match ss with | [.d a, .d b, .d c] => DD.nx (((ρ.set i (.d a)).set j (.d b)).set l (.d c)) n1 | _ => False) XP
theorem Args.three {ss : List SV} {vs : List V} {d e f : D} (h : Args K S Hb H n [.d d, .d e, .d f] vs) : ∃ v u t, vs = [v, u, t] ∧ Dn K Hb v d ∧ Dn K Hb u e ∧ Dn K Hb t f := by
  cases h with
  | cons h1 h2 =>
    obtain ⟨u, t, rfl, hu, ht⟩ := Args.two (ss := []) h2
    obtain ⟨_, e, hv⟩ := h1
    cases e
    exact ⟨_, _, _, rfl, hv, hu, ht⟩
theorem rds_par3 {i j l : Nat} {ta : TA} {GA : DTA} (h1 : RdA K T S E ta GA) : RdS K T S E (tPar3 i j l ta) (xsPar3 i j l GA) := fun σ ρ Hb0 H0 n0 Hb H n DD XP D a sl h q x =>
  h1 σ ρ Hb H n _ XP _ a.wd sl.sl h (fun ss vs n1 Hb1 H1 s ha p => by
    match ss, ha, p with
    | [.d d1, .d d2, .d d3], ha, p =>
      obtain ⟨v, u, t, rfl, hv, hu, ht⟩ := Args.three (ss := []) ha
      exact ⟨v, u, t, rfl, q.nx _ _ n1 Hb1 H1 s.ex (a.trans s) ((((sl.step s).set hv).set hu).set ht) p⟩) (x.step a)
end
end DL

/-! the classes of exceptions with one attribute, by facts of the program's start -/
namespace DL
open L2 PySem PySem.Spec PyProof.Rows
open He (ga ma fAd cT)
def oexB (K : PySem.W.Frag) (C : Addr) : Bool := match K.lookup C with
  | some ⟨.type t, _, .cls ⟨_, _, m :: bm, _, _, true, _, _, _, _, false⟩, ⟨[_, _, _, _, some (.builtin n), _]⟩⟩ => t == "type" && (He.eqO (some (some m)) (some (some (.ref C))) && (n == "ValueError.__new__" && PySem.HandSPX.refsVE bm))
  | _ => false
theorem oexB_ok {K : PySem.W.Frag} {C : Addr} (h : oexB K C = true) : ∃ nm q N bs bm sn sub ab col dd k0 k1 k2 k3 k5,
    K.lookup C = some (excClassObj nm q C N bs bm true sn sub ab col dd k0 k1 k2 k3 k5 "ValueError.__new__") ∧ PySem.HandSPX.refsVE bm = true := by
  unfold oexB at h
  split at h
  · rename_i t dd nm bs m bm ns q sn sub ab col k0 k1 k2 k3 n k5 e
    obtain ⟨h1, h⟩ := b2 h
    obtain ⟨h2, h⟩ := b2 h
    obtain ⟨h3, h4⟩ := b2 h
    have e1 := eq_of_beq h1
    have e3 := eq_of_beq h3
    have e2 : m = .ref C := Option.some.inj (Option.some.inj (He.eqO_ok h2))
    subst e1 e2 e3
    exact ⟨nm, q, ns, bs, bm, sn, sub, ab, col, dd, k0, k1, k2, k3, k5, e, h4⟩
  · cases h
structure X1F (K : PySem.W.Frag) (CS C : Addr) (f : Str) : Prop where
  o : OexC K C
  n : PySem.W.findIn K (.ref C) f = some none
  i : PySem.W.findIn K (.ref C) "__init__" = some (some (.ref (ma K C "__init__")))
  t : PySem.W.typeIn K (.ref (ma K C "__init__")) = some (.type "function")
  r : ErrC K CS C
  k : PySem.W.kitOne K (.ref C) (.ref C) = some true
def x1B (K : PySem.W.Frag) (CS C : Addr) (f : Str) : Bool := oexB K C && (He.eqO (PySem.W.findIn K (.ref C) "__setattr__") (some (some (.builtin "object.__setattr__"))) && (eqB (PySem.W.subIn K (.ref C) (.type "BaseException")) (some true) && (eqV (PySem.W.typeIn K (.ref C)) (.type "type") && (PySem.W.keepIn K (.ref C) &&
  (He.eqO (PySem.W.findIn K (.ref C) f) (some none) && (He.eqO (PySem.W.findIn K (.ref C) "__init__") (some (some (.ref (ma K C "__init__")))) && (eqV (PySem.W.typeIn K (.ref (ma K C "__init__"))) (.type "function") && (errCB K CS C && eqB (PySem.W.kitOne K (.ref C) (.ref C)) (some true)))))))))
theorem x1B_ok {K : PySem.W.Frag} {CS C : Addr} {f : Str} (h : x1B K CS C f = true) : X1F K CS C f := by
  obtain ⟨h1, h⟩ := b2 h
  obtain ⟨h2, h⟩ := b2 h
  obtain ⟨h3, h⟩ := b2 h
  obtain ⟨h4, h⟩ := b2 h
  obtain ⟨h5, h⟩ := b2 h
  obtain ⟨h6, h⟩ := b2 h
  obtain ⟨h7, h⟩ := b2 h
  obtain ⟨h8, h⟩ := b2 h
  obtain ⟨h9, h10⟩ := b2 h
  exact ⟨⟨oexB_ok h1, He.eqO_ok h2, eqB_ok h3, eqV_ok h4, h5⟩, He.eqO_ok h6, He.eqO_ok h7, eqV_ok h8, errCB_ok h9, eqB_ok h10⟩
theorem hasX1_of {P : Program} {w : PySem.World} {K : PySem.W.Frag} {mg : Str → Option Value} {base : Heap} {CS C : Addr} {f : Str} {fd : FuncData} {a b : Str} (x : X1F K CS C f) (ok : FnOk P w K mg base CX0 1 (ma K C "__init__") fd [a, b] (spX1 K C f)) (B : Binds K fd [a, b] []) : HasX1 P w K mg base C f :=
  ⟨_, fd, a, b, x.o, x.n, x.i, x.t, ok, B⟩
end DL

/-! a tuple times 1 is the tuple -/
namespace RZ
open PySem PySem.Spec PyProof.Rows L2
open AutoSeq1 (wpAny_loadPart')
theorem meets_mul1 (l : Addr) (items : Array Value) (n : Nat) (dd : Option Addr) (sl : Array (Option Value)) (u : Tok) :
    Meets (Builtin.«tuple.__mul__» ⟨[.ref l, .int 1 u], []⟩) (fun _ R s => s.heap.get? l = some { cls := .type "tuple", dict := dd, data := .seq items n, slots := sl } ∧ R (.ok (.ret (.ref l))) s) :=
  .of_wp fun prog w A R s h => by
    obtain ⟨hp, g, d, tk, os⟩ := s
    obtain ⟨hl, h⟩ := h
    unfold Builtin.«tuple.__mul__»
    wp_walk using wpAny_loadPart' hl
    exact ⟨_, rfl, h⟩
theorem seq_mul1 {prog : Program} {w : World} {A : Around} {E : Value → Shared → Prop} {s : Shared} {l : Addr} {items : Array Value} {n : Nat} {dd : Option Addr} {sl : Array (Option Value)} {u : Tok} {Q : Value → Shared → Prop}
    (hl : s.heap.get? l = some { cls := .type "tuple", dict := dd, data := .seq items n, slots := sl }) (h : Q (.ref l) s) : wpAny (model prog w) A (sequenceRepeat (.builtin "tuple.__mul__") (.ref l) (.int 1 u)) Q E s := by
  have hT : s.TypeIs (.ref l) "tuple" := ⟨_, hl, rfl⟩
  have hI : s.TypeIs (.int 1 u) "int" := rfl
  unfold sequenceRepeat
  refine wpAny_bind (wpAny_specialOf hI F.slot_int_index.lookup ?_)
  dsimp only
  rw [if_neg (by decide)]
  refine wpAny_bind (wpAny_rule ?_)
  exact call_meets F.slot_tuple_mul hT F.entry_tuple_mul (F.args_tuple_mul_2 _ _) (meets_mul1 l items n dd sl u) ⟨hl, h⟩
theorem wp_mul1 {prog : Program} {w : World} {A : Around} {E : Value → Shared → Prop} {s : Shared} {l : Addr} {items : Array Value} {n : Nat} {dd : Option Addr} {sl : Array (Option Value)} {u : Tok} {Q : Value → Shared → Prop}
    (hl : s.heap.get? l = some { cls := .type "tuple", dict := dd, data := .seq items n, slots := sl }) (h : Q (.ref l) s) : wpAny (model prog w) A (binaryOp .Mult (.ref l) (.int 1 u)) Q E s := by
  have hT : s.TypeIs (.ref l) "tuple" := ⟨_, hl, rfl⟩
  unfold binaryOp
  refine wpAny_holding ?_
  dsimp only [Operator.info]
  unfold binaryOp1
  dsimp only
  refine wpAny_bind (wpAny_bind (wpAny_typeOf hT ?_))
  refine wpAny_bind (wpAny_pure ?_)
  rw [noFill_tuple_mul]
  refine wpAny_bind (wpAny_pure ?_)
  rw [if_neg (by decide)]
  rw [show fillsNumberSlot (.type "int") "mul" = pure true by rfl]
  refine wpAny_bind (wpAny_pure ?_)
  rw [if_neg (by decide), if_neg (by decide), if_neg (by decide)]
  refine wpAny_bind (wpAny_pure ?_)
  rw [if_neg (by decide), if_neg (by decide), if_neg (by decide), if_pos (by decide)]
  have hI : s.TypeIs (.int 1 u) "int" := rfl
  refine wpAny_bind ?_
  unfold tryMethod
  refine wpAny_bind (wpAny_callSpecial?_slot hI F.slot_int_rmul (call_meets F.slot_int_rmul hI F.entry_int_rmul (F.args_int_rmul_2 _ _) (int_rmul_tuple 1 u l items n dd sl) ⟨hl, ?_⟩))
  show wpAny _ _ (pure none) _ _ s
  refine wpAny_pure ?_
  show wpAny _ _ (pure none) _ _ s
  refine wpAny_pure ?_
  dsimp only
  refine wpAny_bind (wpAny_typeOf hT ?_)
  rw [repeat_tuple]
  refine wpAny_bind (wpAny_pure ?_)
  show wpAny _ _ (sequenceRepeat _ _ _) _ _ s
  exact seq_mul1 hl h
def rRep1 (K : PySem.W.Frag) : R2 := fun x y H Q => ∃ (l : Addr) (xs : List V), x = .ref l ∧ y = .int 1 ∧ SqT K H l xs ∧ Q x H
theorem op_rep1 {X : Cx} : OpR X (binaryOp .Mult) (rRep1 X.K) := by
  intro pins s σ H x y v u Q I rx ry h
  obtain ⟨l, xs, rfl, rfl, hx, q⟩ := h
  cases rx
  obtain ⟨t, rfl⟩ := ry
  obtain ⟨its, r1, p1, _⟩ := I.tuple hx
  obtain ⟨o, ho, hc, n, hd⟩ := p1
  obtain ⟨oc, od, dt, sl⟩ := o
  dsimp only at hc hd
  subst hc hd
  exact wp_mul1 ho ⟨.ref l, H, I, rfl, q⟩
end RZ
namespace DL
open L2 PySem PySem.Spec PyProof.Rows
open Evl (Ex ex_l ex_t sz_of)
section
variable {K : PySem.W.Frag}
def rMul1 (K : PySem.W.Frag) : R2 := fun x y H Q => RZ.rRep1 K x y H Q ∨ rMulU K x y H Q
theorem op_mul1 {X : Cx} : OpR X (binaryOp .Mult) (rMul1 X.K) := OpR.or RZ.op_rep1 op_mulU
def mulD1 : D → D → (D → Prop) → Prop
  | .tup xs, .int j, k => (j = 1 ∧ k (.tup xs)) ∨ (xs ≠ [] ∧ 2 ≤ j ∧ j ≤ 1000 ∧ xs.length ≤ 1000 ∧ k (.tup (List.replicate j.toNat xs).flatten))
  | a, b, k => mulD a b k
theorem o2_mul1 : Op2 K (rMul1 K) mulD1 := by
  intro T S x y a b Hb H n P Q w hx hy h q
  unfold mulD1 at h
  split at h
  · rcases h with ⟨rfl, h⟩ | h
    · cases hx with
      | @tup l vs ds h1 h2 =>
        cases hy
        exact .inl ⟨l, vs, rfl, rfl, ex_t w.ex h1, q.now w (.tup h1 h2) h⟩
    · exact .inr (o2_mul w hx hy h q)
  · exact .inr (o2_mul w hx hy h q)
end
end DL

namespace Lw
open L2 PySem DL
def topS (i : Nat) : Stmt := PySem.Challenge.pw_oncefound_k03_cells_valleys_and_matters.main.body.getD i (.Pass ⟨0, 0, 0, 0⟩)
/-- where the classes of the program stand -/
structure Cs where
  AllUnread : Addr
  BadColumn : Addr
  BadCustom : Addr
  BadKind : Addr
  BadKinds : Addr
  BadMatter : Addr
  BadRow : Addr
  BadRows : Addr
  BadTable : Addr
  BadValley : Addr
  FoundError : Addr
  Table : Addr
  TooMany : Addr
  law_no_custom : Addr
  law_no_matter : Addr
  law_no_table : Addr
  law_no_valley : Addr
structure Tk where
  MOST_KIND : Tok
  MOST_MATTERS : Tok
  MOST_VALLEYS : Tok
structure Txt (K : PySem.W.Frag) (mg : Str → Option Value) (cs : Cs) (tk : Tk) : Prop where
  n_abs : mg "abs" = none
  n_all : mg "all" = none
  n_any : mg "any" = none
  n_bool : mg "bool" = none
  n_int : mg "int" = none
  n_isinstance : mg "isinstance" = none
  n_len : mg "len" = none
  n_list : mg "list" = none
  n_min : mg "min" = none
  n_range : mg "range" = none
  n_repr : mg "repr" = none
  n_tuple : mg "tuple" = none
  n_zip : mg "zip" = none
  k_MOST_KIND : True ∧ mg "MOST_KIND" = some (.int 6 tk.MOST_KIND)
  k_MOST_MATTERS : True ∧ mg "MOST_MATTERS" = some (.int 8 tk.MOST_MATTERS)
  k_MOST_VALLEYS : True ∧ mg "MOST_VALLEYS" = some (.int 12 tk.MOST_VALLEYS)
  d__law_no_custom : mg "_law_no_custom" = some (.ref cs.law_no_custom)
  d__law_no_matter : mg "_law_no_matter" = some (.ref cs.law_no_matter)
  d__law_no_table : mg "_law_no_table" = some (.ref cs.law_no_table)
  d__law_no_valley : mg "_law_no_valley" = some (.ref cs.law_no_valley)
  g_AllUnread : mg "AllUnread" = some (.ref cs.AllUnread)
  g_BadColumn : mg "BadColumn" = some (.ref cs.BadColumn)
  g_BadCustom : mg "BadCustom" = some (.ref cs.BadCustom)
  g_BadKind : mg "BadKind" = some (.ref cs.BadKind)
  g_BadKinds : mg "BadKinds" = some (.ref cs.BadKinds)
  g_BadMatter : mg "BadMatter" = some (.ref cs.BadMatter)
  g_BadRow : mg "BadRow" = some (.ref cs.BadRow)
  g_BadRows : mg "BadRows" = some (.ref cs.BadRows)
  g_BadTable : mg "BadTable" = some (.ref cs.BadTable)
  g_BadValley : mg "BadValley" = some (.ref cs.BadValley)
  g_FoundError : mg "FoundError" = some (.ref cs.FoundError)
  g_Table : mg "Table" = some (.ref cs.Table)
  g_TooMany : mg "TooMany" = some (.ref cs.TooMany)
  fa_AllUnread : PySem.W.findIn K (.ref cs.AllUnread) "matter" = some none
  r_AllUnread : ErrC K cs.FoundError cs.AllUnread
  i_AllUnread : PySem.W.kitOne K (.ref cs.AllUnread) (.ref cs.AllUnread) = some true
  x_BadColumn : PySem.W.excIn K cs.BadColumn [.type "ValueError", .type "Exception", .type "BaseException", .type "object"] "ValueError.__new__" = true
  e_BadColumn : PySem.W.keepIn K (.ref cs.BadColumn) = true
  b_BadColumn : PySem.W.subIn K (.ref cs.BadColumn) (.type "BaseException") = some true
  t_BadColumn : PySem.W.typeIn K (.ref cs.BadColumn) = some (.type "type")
  r_BadColumn : ErrC K cs.FoundError cs.BadColumn
  i_BadColumn : PySem.W.kitOne K (.ref cs.BadColumn) (.ref cs.BadColumn) = some true
  v_BadColumn : PySem.W.kitOne K (.ref cs.BadColumn) (.type "ValueError") = some true
  x_BadCustom : PySem.W.excIn K cs.BadCustom [.type "ValueError", .type "Exception", .type "BaseException", .type "object"] "ValueError.__new__" = true
  e_BadCustom : PySem.W.keepIn K (.ref cs.BadCustom) = true
  b_BadCustom : PySem.W.subIn K (.ref cs.BadCustom) (.type "BaseException") = some true
  t_BadCustom : PySem.W.typeIn K (.ref cs.BadCustom) = some (.type "type")
  r_BadCustom : ErrC K cs.FoundError cs.BadCustom
  i_BadCustom : PySem.W.kitOne K (.ref cs.BadCustom) (.ref cs.BadCustom) = some true
  v_BadCustom : PySem.W.kitOne K (.ref cs.BadCustom) (.type "ValueError") = some true
  x_BadKind : PySem.W.excIn K cs.BadKind [.type "ValueError", .type "Exception", .type "BaseException", .type "object"] "ValueError.__new__" = true
  e_BadKind : PySem.W.keepIn K (.ref cs.BadKind) = true
  b_BadKind : PySem.W.subIn K (.ref cs.BadKind) (.type "BaseException") = some true
  t_BadKind : PySem.W.typeIn K (.ref cs.BadKind) = some (.type "type")
  r_BadKind : ErrC K cs.FoundError cs.BadKind
  i_BadKind : PySem.W.kitOne K (.ref cs.BadKind) (.ref cs.BadKind) = some true
  v_BadKind : PySem.W.kitOne K (.ref cs.BadKind) (.type "ValueError") = some true
  x_BadKinds : PySem.W.excIn K cs.BadKinds [.type "ValueError", .type "Exception", .type "BaseException", .type "object"] "ValueError.__new__" = true
  e_BadKinds : PySem.W.keepIn K (.ref cs.BadKinds) = true
  b_BadKinds : PySem.W.subIn K (.ref cs.BadKinds) (.type "BaseException") = some true
  t_BadKinds : PySem.W.typeIn K (.ref cs.BadKinds) = some (.type "type")
  r_BadKinds : ErrC K cs.FoundError cs.BadKinds
  i_BadKinds : PySem.W.kitOne K (.ref cs.BadKinds) (.ref cs.BadKinds) = some true
  v_BadKinds : PySem.W.kitOne K (.ref cs.BadKinds) (.type "ValueError") = some true
  x_BadMatter : PySem.W.excIn K cs.BadMatter [.type "ValueError", .type "Exception", .type "BaseException", .type "object"] "ValueError.__new__" = true
  e_BadMatter : PySem.W.keepIn K (.ref cs.BadMatter) = true
  b_BadMatter : PySem.W.subIn K (.ref cs.BadMatter) (.type "BaseException") = some true
  t_BadMatter : PySem.W.typeIn K (.ref cs.BadMatter) = some (.type "type")
  r_BadMatter : ErrC K cs.FoundError cs.BadMatter
  i_BadMatter : PySem.W.kitOne K (.ref cs.BadMatter) (.ref cs.BadMatter) = some true
  v_BadMatter : PySem.W.kitOne K (.ref cs.BadMatter) (.type "ValueError") = some true
  x_BadRow : PySem.W.excIn K cs.BadRow [.type "ValueError", .type "Exception", .type "BaseException", .type "object"] "ValueError.__new__" = true
  e_BadRow : PySem.W.keepIn K (.ref cs.BadRow) = true
  b_BadRow : PySem.W.subIn K (.ref cs.BadRow) (.type "BaseException") = some true
  t_BadRow : PySem.W.typeIn K (.ref cs.BadRow) = some (.type "type")
  r_BadRow : ErrC K cs.FoundError cs.BadRow
  i_BadRow : PySem.W.kitOne K (.ref cs.BadRow) (.ref cs.BadRow) = some true
  v_BadRow : PySem.W.kitOne K (.ref cs.BadRow) (.type "ValueError") = some true
  x_BadRows : PySem.W.excIn K cs.BadRows [.type "ValueError", .type "Exception", .type "BaseException", .type "object"] "ValueError.__new__" = true
  e_BadRows : PySem.W.keepIn K (.ref cs.BadRows) = true
  b_BadRows : PySem.W.subIn K (.ref cs.BadRows) (.type "BaseException") = some true
  t_BadRows : PySem.W.typeIn K (.ref cs.BadRows) = some (.type "type")
  r_BadRows : ErrC K cs.FoundError cs.BadRows
  i_BadRows : PySem.W.kitOne K (.ref cs.BadRows) (.ref cs.BadRows) = some true
  v_BadRows : PySem.W.kitOne K (.ref cs.BadRows) (.type "ValueError") = some true
  x_BadTable : PySem.W.excIn K cs.BadTable [.type "ValueError", .type "Exception", .type "BaseException", .type "object"] "ValueError.__new__" = true
  e_BadTable : PySem.W.keepIn K (.ref cs.BadTable) = true
  b_BadTable : PySem.W.subIn K (.ref cs.BadTable) (.type "BaseException") = some true
  t_BadTable : PySem.W.typeIn K (.ref cs.BadTable) = some (.type "type")
  r_BadTable : ErrC K cs.FoundError cs.BadTable
  i_BadTable : PySem.W.kitOne K (.ref cs.BadTable) (.ref cs.BadTable) = some true
  v_BadTable : PySem.W.kitOne K (.ref cs.BadTable) (.type "ValueError") = some true
  x_BadValley : PySem.W.excIn K cs.BadValley [.type "ValueError", .type "Exception", .type "BaseException", .type "object"] "ValueError.__new__" = true
  e_BadValley : PySem.W.keepIn K (.ref cs.BadValley) = true
  b_BadValley : PySem.W.subIn K (.ref cs.BadValley) (.type "BaseException") = some true
  t_BadValley : PySem.W.typeIn K (.ref cs.BadValley) = some (.type "type")
  r_BadValley : ErrC K cs.FoundError cs.BadValley
  i_BadValley : PySem.W.kitOne K (.ref cs.BadValley) (.ref cs.BadValley) = some true
  v_BadValley : PySem.W.kitOne K (.ref cs.BadValley) (.type "ValueError") = some true
  ic_Table : InC K cs.Table
  no_Table : ∀ t ∈ ["NoneType", "bool", "int", "str", "list", "tuple", "dict"], PySem.W.kitOne K (.type t) (.ref cs.Table) = some false
  i_Table : PySem.W.kitOne K (.ref cs.Table) (.ref cs.Table) = some true
  na_Table_kinds : NoAttr K cs.Table "kinds"
  na_Table_rows : NoAttr K cs.Table "rows"
  fa_TooMany : PySem.W.findIn K (.ref cs.TooMany) "most" = some none
  r_TooMany : ErrC K cs.FoundError cs.TooMany
  i_TooMany : PySem.W.kitOne K (.ref cs.TooMany) (.ref cs.TooMany) = some true
end Lw

namespace Lw
open L2 PySem DL
/-! the mathematics of tables -/
mutual
/-- nothing that was caught is in it -/
def nx : D → Bool
  | .exc _ _ _ => false
  | .fnv _ => false
  | .lst xs => nxs xs
  | .tup xs => nxs xs
  | .dic _ xs => nxs xs
  | .ins _ _ xs => nxs xs
  | _ => true
def nxs : List D → Bool
  | [] => true
  | d :: ds => nx d && nxs ds
end
theorem bare_of {d : D} (h : nx d = true) : bareD d := by cases d <;> first | trivial | (simp [nx] at h)
theorem nxs_mem : ∀ {ds : List D} {d : D}, nxs ds = true → d ∈ ds → nx d = true
  | e :: es, d, h, hm => by
    simp [nxs] at h
    rcases List.mem_cons.mp hm with rfl | hm
    · exact h.1
    · exact nxs_mem h.2 hm
theorem nxs_of : ∀ {ds : List D}, (∀ d ∈ ds, nx d = true) → nxs ds = true
  | [], _ => rfl
  | d :: ds, h => by
    simp only [nxs, Bool.and_eq_true]
    exact ⟨h d List.mem_cons_self, nxs_of fun e he => h e (List.mem_cons_of_mem _ he)⟩
def betw (lo hi : Int) : D → Bool
  | .int i => decide (lo ≤ i) && decide (i ≤ hi)
  | _ => false
def cellB (k : D) (d : D) : Bool := match d, k with
  | .non, _ => true
  | .int i, .int k => decide (0 ≤ i) && decide (i ≤ k - 1)
  | _, _ => false
def kindsB : D → Bool
  | .tup ks => decide (1 ≤ ks.length) && decide (ks.length ≤ 8) && ks.all (betw 1 6)
  | _ => false
def rowB (ks : List D) : D → Bool
  | .tup cs => decide (cs.length = ks.length) && (ks.zip cs).all fun p => cellB p.1 p.2
  | _ => false
theorem compM_map {step : D → Nat → (Option D → Nat → Prop) → Prop} {f : D → D} : ∀ {xs : List D} {n : Nat} {P : List D → Nat → Prop}, (∀ x ∈ xs, ∀ n (k : Option D → Nat → Prop), k (some (f x)) n → step x n k) → P (xs.map f) n → compM step xs n P
  | [], _, _, _, p => p
  | x :: xs, n, P, h, p => h x List.mem_cons_self n _ (compM_map (fun y hy => h y (List.mem_cons_of_mem _ hy)) p)
theorem compM_filter {step : D → Nat → (Option D → Nat → Prop) → Prop} {f : D → Option D} : ∀ {xs : List D} {n : Nat} {P : List D → Nat → Prop}, (∀ x ∈ xs, ∀ n (k : Option D → Nat → Prop), k (f x) n → step x n k) → P (xs.filterMap f) n → compM step xs n P
  | [], _, _, _, p => p
  | x :: xs, n, P, h, p => h x List.mem_cons_self n _ (compM_filter (fun y hy => h y (List.mem_cons_of_mem _ hy)) (by
      rw [List.filterMap_cons] at p
      cases e : f x with
      | none => rw [e] at p; exact p
      | some d => rw [e] at p; exact p))
theorem blsD_map {α : Type} {f : α → Bool} : ∀ {xs : List α}, blsD (xs.map fun x => D.bl (f x)) = some (xs.map f)
  | [] => rfl
  | x :: xs => by simp [blsD, blsD_map (xs := xs)]
theorem all_map {α : Type} {f : α → Bool} {xs : List α} : (xs.map f).all id = xs.all f := by simp [List.all_map]
theorem allD_map {f : D → Bool} {xs : List D} {k : D → Prop} (h : k (.bl (xs.all f))) : allD' (.lst (xs.map fun x => .bl (f x))) k := ⟨_, blsD_map, by rw [all_map]; exact h⟩
theorem toPs_ints : ∀ js : List Int, toPs (js.map D.int) = some (js.map PyData.int)
  | [] => rfl
  | j :: js => by simp [toPs, toP, toPs_ints js]
theorem lay_ints : ∀ js : List Int, PySem.PyData.canLayAll0 (js.map PyData.int) = true
  | [] => rfl
  | j :: js => by simp [PySem.PyData.canLayAll0, PySem.PyData.canLay0, lay_ints js]
theorem dep_ints : ∀ js : List Int, PySem.PyData.depthAll (js.map PyData.int) = 0
  | [] => rfl
  | j :: js => by simp [PySem.PyData.depthAll, PySem.PyData.depth, dep_ints js]
theorem eq_ints {f : Bool → Bool} {js : List Int} {k : D → Prop} (h : k (.bl (f js.isEmpty))) : eqP f (.lst (js.map D.int)) (.lst []) k := by
  refine ⟨.list (js.map PyData.int), .list [], by simp [toP, toPs_ints], by simp [toP, toPs], ?_, ?_, ?_⟩
  · simp [SeqAt.shaped, PySem.PyData.canLay0, PySem.PyData.depth, lay_ints, dep_ints]
  · simp [SeqAt.shaped, PySem.PyData.canLay0, PySem.PyData.canLayAll0, PySem.PyData.depth, PySem.PyData.depthAll]
  · cases js <;> simpa [PyData.eqv, PyData.eqvAll] using h
def ones {α : Type} (b : α → Bool) (xs : List α) : List D := xs.filterMap fun x => if b x then some (D.int 1) else none
theorem ones_eq {α : Type} {b : α → Bool} : ∀ {xs : List α}, ones b xs = ((xs.filter b).map fun _ => (1 : Int)).map D.int
  | [] => rfl
  | x :: xs => by
    have z := ones_eq (b := b) (xs := xs)
    unfold ones at z ⊢
    rw [List.filterMap_cons, List.filter_cons]
    cases h : b x
    · simpa using z
    · simpa using z
theorem eq_ones {α : Type} {b : α → Bool} {xs : List α} {f : Bool → Bool} {k : D → Prop} (h : k (.bl (f (xs.all fun x => !b x)))) : eqP f (.lst (ones b xs)) (.lst []) k := by
  rw [ones_eq]
  refine eq_ints ?_
  have e : ((xs.filter b).map fun _ => (1 : Int)).isEmpty = xs.all fun x => !b x := by
    rw [Bool.eq_iff_iff]
    simp [List.filter_eq_nil_iff]
  rw [e]
  exact h
theorem at_nat {xs : List D} {j : Nat} {d : D} (h : xs[j]? = some d) : atD xs (j : Int) = some d := by
  have hj := (List.getElem?_eq_some_iff.mp h).1
  have e : ixN xs.length (j : Int) = some j := by
    unfold ixN
    rw [if_pos (by omega), if_pos (by omega), Int.toNat_natCast]
  unfold atD
  rw [e]
  exact h
theorem at_zero {x : D} {xs : List D} : atD (x :: xs) 0 = some x := at_nat (j := 0) rfl
theorem cut_to {xs : List D} {i : Nat} : cutD xs none (some (i : Int)) = xs.take i := by
  unfold cutD
  rw [HT.sIx_nat, HT.sIx_none, List.drop_zero]
  simp [List.take_eq_take_iff]
theorem cut_from {xs : List D} {i : Nat} : cutD xs (some (i : Int)) none = xs.drop i := by
  unfold cutD
  rw [HT.sIx_nat, HT.sIx_none]
  by_cases h : i ≤ xs.length
  · rw [Nat.min_eq_left h]
    exact List.take_of_length_le (by simp)
  · rw [Nat.min_eq_right (by omega)]
    rw [List.drop_of_length_le (Nat.le_refl _), List.drop_of_length_le (by omega)]
    simp
theorem cut_from1 {xs : List D} {i : Nat} : cutD xs (some ((i : Int) + 1)) none = xs.drop (i + 1) := cut_from (i := i + 1)
/-- the cell of matter j in a row -/
def atN (r : D) (j : Nat) : D := match r with
  | .tup cs => cs.getD j .non
  | _ => .non
def colU (rs : List D) (j : Nat) : Bool := rs.all fun r => DL.isNon (atN r j)
def firstU (m : Nat) (rs : List D) : Option Nat := (List.range m).find? (colU rs)
def rowsB (ks : List D) : D → Bool
  | .tup rs => decide (1 ≤ rs.length) && decide (rs.length ≤ 12) && rs.all (rowB ks) && (firstU ks.length rs).isNone
  | _ => false
def kR : List Str := ["kinds", "rows"]
def tabD (C : Addr) (ks rs : List D) : D := .ins C kR [.tup ks, .tup rs]
def goodT (ks rs : List D) : Prop := kindsB (.tup ks) = true ∧ rowsB ks (.tup rs) = true
theorem rowB_inv {ks : List D} {d : D} (h : rowB ks d = true) : ∃ cs : List D, d = .tup cs ∧ cs.length = ks.length ∧ ∀ (j : Nat) (k c : D), ks[j]? = some k → cs[j]? = some c → cellB k c = true := by
  cases d with
  | tup cs =>
    simp only [rowB, Bool.and_eq_true, decide_eq_true_eq] at h
    refine ⟨cs, rfl, h.1, fun j k c e1 e2 => ?_⟩
    rw [List.all_eq_true] at h
    have z : (ks.zip cs)[j]? = some (k, c) := by simp [List.getElem?_zip_eq_some, e1, e2]
    exact h.2 _ (List.mem_of_getElem? z)
  | _ => simp [rowB] at h
theorem firstU_some {m i : Nat} {rs : List D} (hi : i < m) (h : colU rs i = true) (hn : ∀ j < i, colU rs j = false) : firstU m rs = some i :=
  List.find?_range_eq_some.mpr ⟨h, List.mem_range.mpr hi, fun j hj => by simp [hn j hj]⟩
theorem firstU_none {m : Nat} {rs : List D} (hn : ∀ j < m, colU rs j = false) : firstU m rs = none :=
  List.find?_range_eq_none.mpr fun j hj => by simp [hn j hj]
theorem vd_k {a b : D} : valD [Sum.inr (Str.ofString "kinds"), Sum.inr (Str.ofString "rows")] [a, b] (Sum.inr (Str.ofString "kinds")) = some a := rfl
theorem vd_r {a b : D} : valD [Sum.inr (Str.ofString "kinds"), Sum.inr (Str.ofString "rows")] [a, b] (Sum.inr (Str.ofString "rows")) = some b := by
  have e : ¬ (Sum.inr (Str.ofString "kinds") : Key) = Sum.inr (Str.ofString "rows") := by simp; decide
  unfold valD
  rw [if_neg e]
  unfold valD
  exact if_pos rfl
theorem nxs_app : ∀ {xs ys : List D}, nxs xs = true → nxs ys = true → nxs (xs ++ ys) = true
  | [], _, _, h => h
  | x :: xs, ys, h, g => by
    simp only [nxs, Bool.and_eq_true] at h
    show (nx x && nxs (xs ++ ys)) = true
    rw [h.1, nxs_app h.2 g]
    rfl
theorem nxs_take {xs : List D} {i : Nat} (h : nxs xs = true) : nxs (xs.take i) = true := nxs_of fun _ hd => nxs_mem h (List.mem_of_mem_take hd)
theorem nxs_drop {xs : List D} {i : Nat} (h : nxs xs = true) : nxs (xs.drop i) = true := nxs_of fun _ hd => nxs_mem h (List.mem_of_mem_drop hd)
theorem nx_less {xs : List D} {i : Nat} (h : nxs xs = true) : nx (.tup (xs.take i ++ xs.drop (i + 1))) = true := by
  show nxs _ = true
  exact nxs_app (nxs_take h) (nxs_drop h)
theorem nx_put {xs : List D} {i : Nat} {d : D} (h : nxs xs = true) (hd : nx d = true) : nx (.tup (xs.take i ++ [d] ++ xs.drop (i + 1))) = true := by
  show nxs _ = true
  exact nxs_app (nxs_app (nxs_take h) (by simp [nxs, hd])) (nxs_drop h)
theorem lim {n : Nat} (h : n < 1099511627776) : n < LIM := h
theorem kit_no {K : PySem.W.Frag} {C : Addr} (no : ∀ t ∈ ["NoneType", "bool", "int", "str", "list", "tuple", "dict"], PySem.W.kitOne K (.type t) (.ref C) = some false) {d : D} (h : nx d = true) (hi : ∀ C ns ds, d ≠ .ins C ns ds) : PySem.W.kitOne K (tyD d) (.ref C) = some false := by
  cases d with
  | non => exact no "NoneType" (by simp)
  | bl b => exact no "bool" (by simp)
  | int i => exact no "int" (by simp)
  | str x => exact no "str" (by simp)
  | lst xs => exact no "list" (by simp)
  | tup xs => exact no "tuple" (by simp)
  | dic ks ds => exact no "dict" (by simp)
  | ins C ns ds => exact absurd rfl (hi C ns ds)
  | exc C ns ds => simp [nx] at h
  | fnv f => simp [nx] at h
theorem fld_k {a b : D} : fldD kR [a, b] "kinds" = some a := rfl
theorem fld_r {a b : D} : fldD kR [a, b] "rows" = some b := by
  have e : ¬ (Str.ofString "kinds") = Str.ofString "rows" := by decide
  unfold kR fldD
  rw [if_neg e]
  unfold fldD
  exact if_pos rfl
/-! what repr shows of small data -/
mutual
def smB : D → Bool
  | .int i => decide (i.natAbs < 1000)
  | .non => true
  | .bl _ => true
  | .tup xs => smA xs
  | _ => false
def smA : List D → Bool
  | [] => true
  | d :: ds => smB d && smA ds
end
mutual
def lnB : D → Nat
  | .int i => i.natAbs + 2
  | .non => 4
  | .bl _ => 5
  | .tup xs => lnA xs + 4
  | .lst xs => lnA xs + 4
  | _ => 0
def lnA : List D → Nat
  | [] => 0
  | d :: ds => lnB d + 2 + lnA ds
end
mutual
def dpB : D → Nat
  | .tup xs => dpA xs + 1
  | .lst xs => dpA xs + 1
  | _ => 0
def dpA : List D → Nat
  | [] => 0
  | d :: ds => max (dpB d) (dpA ds)
end
theorem tupText_le (ts : List Str) : (tupleText ts).length ≤ piled ts + 4 := by
  unfold tupleText
  rw [Str.length_append, Str.length_append]
  have h1 : (("(" : Str)).length = 1 := by decide
  have h2 : (Str.ofString (if (ts.length == 1) = true then ",)" else ")")).length ≤ 2 := by split <;> decide
  have h3 : (Str.join ", " ts).length ≤ piled ts := by
    cases ts with
    | nil => decide
    | cons a b =>
      have := join_length_add (a :: b) (by simp)
      omega
  omega
mutual
theorem sm_toP : ∀ d : D, smB d = true → ∃ p, toP d = some p ∧ p.showable = true ∧ p.hasDict = false ∧ p.depth ≤ dpB d ∧ p.shown.length ≤ lnB d
  | .int i, h => by
    have hi : i.natAbs < 1000 := by simpa [smB] using h
    refine ⟨.int i, rfl, ?_, rfl, Nat.le_refl _, ?_⟩
    · have := Nat.log2_le_self i.natAbs
      simp only [PySem.PyData.showable, decide_eq_true_eq]
      omega
    · have := PyProof.Rows.len_str_of_int i
      show (Str.ofString (toString i)).length ≤ i.natAbs + 2
      omega
  | .non, _ => ⟨.none, rfl, rfl, rfl, Nat.le_refl _, by decide⟩
  | .bl b, _ => ⟨.bool b, rfl, rfl, rfl, Nat.le_refl _, by cases b <;> decide⟩
  | .tup xs, h => by
    obtain ⟨ps, e, h1, h2, h3, h4⟩ := sm_toPs xs (by simpa [smB] using h)
    refine ⟨.tuple ps, by simp [toP, e], by simpa [PySem.PyData.showable] using h1, by simpa [PySem.PyData.hasDict] using h2, ?_, ?_⟩
    · show PySem.PyData.depthAll ps + 1 ≤ dpA xs + 1
      omega
    · have z := tupText_le (PySem.PyData.shownAll ps)
      show (tupleText (PySem.PyData.shownAll ps)).length ≤ lnA xs + 4
      omega
  | .lst _, h => by simp [smB] at h
  | .str _, h => by simp [smB] at h
  | .dic _ _, h => by simp [smB] at h
  | .ins _ _ _, h => by simp [smB] at h
  | .exc _ _ _, h => by simp [smB] at h
  | .fnv _, h => by simp [smB] at h
theorem sm_toPs : ∀ ds : List D, smA ds = true → ∃ ps, toPs ds = some ps ∧ PySem.PyData.showableAll ps = true ∧ PySem.PyData.hasDictAll ps = false ∧ PySem.PyData.depthAll ps ≤ dpA ds ∧ piled (PySem.PyData.shownAll ps) ≤ lnA ds
  | [], _ => ⟨[], rfl, rfl, rfl, Nat.le_refl _, Nat.le_refl _⟩
  | d :: ds, h => by
    simp only [smA, Bool.and_eq_true] at h
    obtain ⟨p, e, h1, h2, h3, h4⟩ := sm_toP d h.1
    obtain ⟨ps, e', g1, g2, g3, g4⟩ := sm_toPs ds h.2
    refine ⟨p :: ps, by simp [toPs, e, e'], by simp [PySem.PyData.showableAll, h1, g1], by simp [PySem.PyData.hasDictAll, h2, g2], ?_, ?_⟩
    · simp only [PySem.PyData.depthAll, dpA]
      omega
    · simp only [PySem.PyData.shownAll, lnA]
      rw [piled_cons]
      omega
end
theorem lnA_le {M : Nat} : ∀ {ds : List D}, (∀ d ∈ ds, lnB d ≤ M) → lnA ds ≤ ds.length * (M + 2)
  | [], _ => Nat.zero_le _
  | d :: ds, h => by
    have h1 := h d List.mem_cons_self
    have h2 := lnA_le (M := M) (ds := ds) fun e he => h e (List.mem_cons_of_mem _ he)
    simp only [lnA, List.length_cons]
    rw [Nat.succ_mul]
    omega
theorem dpA_le {M : Nat} : ∀ {ds : List D}, (∀ d ∈ ds, dpB d ≤ M) → dpA ds ≤ M
  | [], _ => Nat.zero_le _
  | d :: ds, h => by
    have h1 := h d List.mem_cons_self
    have h2 := dpA_le (M := M) (ds := ds) fun e he => h e (List.mem_cons_of_mem _ he)
    simp only [dpA]
    omega
theorem smA_of : ∀ {ds : List D}, (∀ d ∈ ds, smB d = true) → smA ds = true
  | [], _ => rfl
  | d :: ds, h => by simp only [smA, Bool.and_eq_true]; exact ⟨h d List.mem_cons_self, smA_of fun e he => h e (List.mem_cons_of_mem _ he)⟩
theorem cell_sm {k d : D} (hk : betw 1 6 k = true) (h : cellB k d = true) : smB d = true ∧ lnB d ≤ 8 ∧ dpB d = 0 := by
  cases k with
  | int k =>
    simp only [betw, Bool.and_eq_true, decide_eq_true_eq] at hk
    cases d with
    | non => exact ⟨rfl, by decide, rfl⟩
    | int i =>
      simp only [cellB, Bool.and_eq_true, decide_eq_true_eq] at h
      refine ⟨?_, ?_, rfl⟩
      · simp only [smB, decide_eq_true_eq]
        omega
      · simp only [lnB]
        omega
    | _ => simp [cellB] at h
  | _ => simp [betw] at hk
theorem repr_good {ks rs : List D} (hk : kindsB (.tup ks) = true) (hr : rowsB ks (.tup rs) = true) : ∃ p, toP (.tup [.tup ks, .tup rs]) = some p ∧ okR p := by
  simp only [kindsB, Bool.and_eq_true, decide_eq_true_eq, List.all_eq_true] at hk
  simp only [rowsB, Bool.and_eq_true, decide_eq_true_eq, List.all_eq_true] at hr
  have K : ∀ d ∈ ks, smB d = true ∧ lnB d ≤ 8 ∧ dpB d = 0 := fun d hd => by
    have z := hk.2 d hd
    cases d with
    | int i =>
      simp only [betw, Bool.and_eq_true, decide_eq_true_eq] at z
      refine ⟨?_, ?_, rfl⟩
      · simp only [smB, decide_eq_true_eq]
        omega
      · simp only [lnB]
        omega
    | _ => simp [betw] at z
  have R : ∀ d ∈ rs, ∃ cs : List D, d = .tup cs ∧ smA cs = true ∧ lnA cs ≤ 80 ∧ dpA cs ≤ 0 := fun d hd => by
    obtain ⟨cs, rfl, hl, hc⟩ := rowB_inv (hr.1.2 d hd)
    have C : ∀ c ∈ cs, smB c = true ∧ lnB c ≤ 8 ∧ dpB c = 0 := fun c hc' => by
      obtain ⟨j, hj, rfl⟩ := List.mem_iff_getElem.mp hc'
      have hj' : j < ks.length := by omega
      exact cell_sm (hk.2 _ (List.getElem_mem hj')) (hc j _ _ (List.getElem?_eq_getElem hj') (List.getElem?_eq_getElem hj))
    refine ⟨cs, rfl, smA_of fun c h => (C c h).1, ?_, dpA_le fun c h => Nat.le_of_eq (C c h).2.2⟩
    have := lnA_le (M := 8) fun c h => (C c h).2.1
    omega
  have lk := lnA_le (M := 8) fun c h => (K c h).2.1
  have lr := lnA_le (M := 84) (ds := rs) fun c h => by
    obtain ⟨cs, rfl, _, h2, _⟩ := R c h
    show lnA cs + 4 ≤ 84
    omega
  have dk := dpA_le (M := 0) fun c h => Nat.le_of_eq (K c h).2.2
  have dr := dpA_le (M := 1) (ds := rs) fun c h => by
    obtain ⟨cs, rfl, _, _, h2⟩ := R c h
    show dpA cs + 1 ≤ 1
    omega
  have sk : smA ks = true := smA_of fun c h => (K c h).1
  have sr : smA rs = true := smA_of fun c h => by
    obtain ⟨cs, rfl, h1, _⟩ := R c h
    exact h1
  obtain ⟨p, e, h1, h2, h3, h4⟩ := sm_toP (.tup [.tup ks, .tup rs]) (by simp [smB, smA, sk, sr])
  refine ⟨p, e, h1, h2, ?_, ?_⟩
  · simp only [dpB, dpA] at h3
    omega
  · simp only [lnB, lnA] at h4
    have a1 : ks.length * (8 + 2) ≤ 80 := by omega
    have a2 : rs.length * (84 + 2) ≤ 1032 := by omega
    omega
/-- a list made by drawing -/
theorem compM_gen {step : D → Nat → (Option D → Nat → Prop) → Prop} {c N : Nat} {good : D → D → Prop} : ∀ (xs : List D) (n : Nat) (P : List D → Nat → Prop), n + c * xs.length ≤ N →
    (∀ x ∈ xs, ∀ (m : Nat) (k : Option D → Nat → Prop), m + c ≤ N → (∀ d m', m' ≤ m + c → good x d → k (some d) m') → step x m k) →
    (∀ (ds : List D) (m' : Nat), m' ≤ n + c * xs.length → ds.length = xs.length → (∀ (i : Nat) (x d : D), xs[i]? = some x → ds[i]? = some d → good x d) → P ds m') → compM step xs n P
  | [], n, P, _, _, h => h [] n (by simp) rfl fun i x d e => by simp at e
  | x :: xs, n, P, hN, hs, h => by
    have e : c * (x :: xs).length = c * xs.length + c := by rw [List.length_cons, Nat.mul_succ]
    rw [e] at hN
    refine hs x List.mem_cons_self n _ (by omega) fun d m' hm hd => ?_
    refine compM_gen xs m' _ (by omega) (fun y hy => hs y (List.mem_cons_of_mem _ hy)) fun ds m2 h2 hl hg => ?_
    refine h (d :: ds) m2 (by rw [e]; omega) (by simp [hl]) fun i y d' e1 e2 => ?_
    cases i with
    | zero =>
      simp at e1 e2
      rw [← e1, ← e2]
      exact hd
    | succ i => exact hg i y d' (by simpa using e1) (by simpa using e2)
theorem rowB_of {ks cs : List D} (hl : cs.length = ks.length) (h : ∀ (i : Nat) (k c : D), ks[i]? = some k → cs[i]? = some c → cellB k c = true) : rowB ks (.tup cs) = true := by
  simp only [rowB, Bool.and_eq_true, decide_eq_true_eq, List.all_eq_true]
  refine ⟨hl, fun p hp => ?_⟩
  obtain ⟨i, hi, rfl⟩ := List.mem_iff_getElem.mp hp
  have e : (ks.zip cs)[i]? = some (ks.zip cs)[i] := List.getElem?_eq_getElem hi
  obtain ⟨e1, e2⟩ := List.getElem?_zip_eq_some.mp e
  exact h i _ _ e1 e2
theorem cell_nx {k d : D} (h : cellB k d = true) : nx d = true := by
  cases d <;> first | rfl | (simp [cellB] at h)
theorem row_nx {ks : List D} {d : D} (h : rowB ks d = true) : nx d = true := by
  obtain ⟨cs, rfl, hl, hc⟩ := rowB_inv h
  show nxs cs = true
  refine nxs_of fun c hm => ?_
  obtain ⟨j, hj, rfl⟩ := List.mem_iff_getElem.mp hm
  have hj' : j < ks.length := by omega
  exact cell_nx (hc j _ _ (List.getElem?_eq_getElem hj') (List.getElem?_eq_getElem hj))
theorem range_len {m : Nat} : (rangeD 0 (m : Int).toNat).length = m := by simp [rangeD]
theorem range_mem {m : Nat} {x : D} (h : x ∈ rangeD 0 (m : Int).toNat) : ∃ i : Nat, i < m ∧ x = .int (i : Int) := by
  unfold rangeD at h
  rw [Int.toNat_natCast] at h
  obtain ⟨i, hi, rfl⟩ := List.mem_map.mp h
  exact ⟨i, List.mem_range.mp hi, by simp⟩
theorem range_get {m i : Nat} {x : D} (h : (rangeD 0 (m : Int).toNat)[i]? = some x) : i < m ∧ x = .int (i : Int) := by
  unfold rangeD at h
  rw [Int.toNat_natCast, List.getElem?_map] at h
  cases e : (List.range m)[i]? with
  | none => rw [e] at h; cases h
  | some j =>
    rw [e] at h
    obtain ⟨h3, h4⟩ := List.getElem?_eq_some_iff.mp e
    simp at h3 h4
    subst h4
    cases h
    exact ⟨h3, by simp⟩
theorem ix_nat {n j : Nat} (h : j < n) : ixN n (j : Int) = some j := by
  unfold ixN
  rw [if_pos (by omega), if_pos (by omega), Int.toNat_natCast]
theorem mem_set' {rs : List D} {v : Nat} {r : D} (hv : v < rs.length) : r ∈ rs.set v r := List.mem_iff_getElem.mpr ⟨v, by simpa using hv, by simp⟩
theorem put_set {cs : List D} {i : Nat} {d : D} (h : i < cs.length) : cs.take i ++ [d] ++ cs.drop (i + 1) = cs.set i d := by
  rw [List.set_eq_take_append_cons_drop, if_pos h]
  simp
theorem col_set {rs : List D} {v j : Nat} {r' : D} (h : colU rs j = false) (hv : v < rs.length) (e : atN r' j = atN rs[v] j) : colU (rs.set v r') j = false := by
  unfold colU at h ⊢
  rw [List.all_eq_false] at h ⊢
  obtain ⟨x, hx, hn⟩ := h
  obtain ⟨u, hu, rfl⟩ := List.mem_iff_getElem.mp hx
  by_cases huv : u = v
  · subst huv
    exact ⟨r', mem_set' hv, by rw [e]; exact hn⟩
  · exact ⟨rs[u], List.mem_iff_getElem.mpr ⟨u, by simpa using hu, by rw [List.getElem_set_ne (Ne.symm huv)]⟩, hn⟩
theorem atN_set {cs : List D} {i j : Nat} {d : D} (h : i ≠ j) : atN (.tup (cs.set i d)) j = atN (.tup cs) j := by
  show (cs.set i d).getD j .non = cs.getD j .non
  rw [List.getD_eq_getElem?_getD, List.getD_eq_getElem?_getD, List.getElem?_set_ne h]
theorem atN_self {cs : List D} {i : Nat} {d : D} (h : i < cs.length) : atN (.tup (cs.set i d)) i = d := by
  show (cs.set i d).getD i .non = d
  rw [List.getD_eq_getElem?_getD, List.getElem?_set_self h]
  rfl
theorem rowB_set {ks cs : List D} {i : Nat} {d k : D} (h : rowB ks (.tup cs) = true) (hk : ks[i]? = some k) (hd : cellB k d = true) : rowB ks (.tup (cs.set i d)) = true := by
  obtain ⟨cs', e, hl, hc⟩ := rowB_inv h
  cases e
  refine rowB_of (by simpa using hl) fun j k' c e1 e2 => ?_
  by_cases hj : i = j
  · subst hj
    have hi : i < cs.length := by
      have := (List.getElem?_eq_some_iff.mp hk).1
      omega
    rw [List.getElem?_set_self hi] at e2
    rw [hk] at e1
    cases e1
    cases e2
    exact hd
  · rw [List.getElem?_set_ne hj] at e2
    exact hc j k' c e1 e2
theorem upd_upd {H : L2.Hp} {p : Addr} {o u : L2.HO} : L2.upd (L2.upd H p o) p u = L2.upd H p u := by
  funext b
  by_cases h : b = p
  · rw [h, L2.upd_same, L2.upd_same]
  · rw [L2.upd_ne h, L2.upd_ne h, L2.upd_ne h]
def absI (z : Int) : Int := if z < 0 then -z else z
def bigI (ys : List Int) : List Int := (ys.filter fun y => decide ((10 : Int) ^ 18 ≤ y)).map fun y => y - 10 ^ 18
theorem bigI_snoc {ys : List Int} {y : Int} : bigI (ys ++ [y]) = if (10 : Int) ^ 18 ≤ y then bigI ys ++ [y - 10 ^ 18] else bigI ys := by
  unfold bigI
  rw [List.filter_append, List.map_append]
  by_cases h : (10 : Int) ^ 18 ≤ y
  · rw [if_pos h, List.filter_cons_of_pos (by simpa using h)]
    rfl
  · rw [if_neg h, List.filter_cons_of_neg (by simpa using h)]
    simp
theorem okR_bool (b : Bool) : okR (.bool b) := ⟨rfl, rfl, by cases b <;> decide, by cases b <;> decide⟩
/-! ### rows of ints, lots -/
def toI : D → Int
  | .int i => i
  | _ => 0
def intsOf (xs : List D) : List Int := xs.map toI
theorem betw_int {lo hi : Int} {d : D} (h : betw lo hi d = true) : d = .int (toI d) ∧ lo ≤ toI d ∧ toI d ≤ hi := by
  cases d with
  | int i => simpa [betw, toI] using h
  | _ => simp [betw] at h
theorem ints_eq {lo hi : Int} : ∀ {xs : List D}, xs.all (betw lo hi) = true → xs = (intsOf xs).map D.int
  | [], _ => rfl
  | x :: xs, h => by
    simp only [List.all_cons, Bool.and_eq_true] at h
    show x :: xs = D.int (toI x) :: (intsOf xs).map D.int
    rw [← (betw_int h.1).1, ← ints_eq h.2]
theorem intsOf_map {ns : List Int} : intsOf (ns.map D.int) = ns := by
  unfold intsOf
  rw [List.map_map]
  conv => rhs; rw [← List.map_id ns]
  rfl
def risB : List Int → Bool
  | [] => true
  | [_] => true
  | a :: b :: l => decide (a < b) && risB (b :: l)
theorem risB_zip : ∀ {ns : List Int}, ((ns.zip (ns.drop 1)).all fun p => decide (p.1 < p.2)) = risB ns
  | [] => rfl
  | [_] => rfl
  | a :: b :: l => by
    have z := risB_zip (ns := b :: l)
    show (decide (a < b) && (((b :: l).zip ((b :: l).drop 1)).all fun p => decide (p.1 < p.2))) = _
    rw [z]
    rfl
def shortD : D → Bool
  | .tup xs => decide (xs.length ≤ 100)
  | _ => true
def diffB (m : Nat) : D → Bool
  | .tup xs => !xs.isEmpty && xs.all (betw 0 ((m : Int) - 1)) && decide (intsOf xs).Nodup
  | _ => false
def lotB (m : Nat) : D → Bool
  | .tup xs => !xs.isEmpty && xs.all (betw 0 ((m : Int) - 1)) && risB (intsOf xs)
  | _ => false
theorem cut_from_one {xs : List D} : cutD xs (some 1) none = xs.drop 1 := cut_from (i := 1)
theorem compM_sub {step : D → Nat → (Option D → Nat → Prop) → Prop} {c N : Nat} : ∀ (xs : List D) (n : Nat) (P : List D → Nat → Prop), n + c * xs.length ≤ N →
    (∀ x ∈ xs, ∀ (m : Nat) (k : Option D → Nat → Prop), m + c ≤ N → (∀ o m', m' ≤ m + c → (o = none ∨ o = some x) → k o m') → step x m k) →
    (∀ (ds : List D) (m' : Nat), m' ≤ n + c * xs.length → ds.Sublist xs → P ds m') → compM step xs n P
  | [], n, P, _, _, h => h [] n (by simp) .slnil
  | x :: xs, n, P, hN, hs, h => by
    have e : c * (x :: xs).length = c * xs.length + c := by rw [List.length_cons, Nat.mul_succ]
    rw [e] at hN
    refine hs x List.mem_cons_self n _ (by omega) fun o m' hm ho => ?_
    rcases ho with rfl | rfl
    · exact compM_sub xs m' _ (by omega) (fun y hy => hs y (List.mem_cons_of_mem _ hy)) fun ds m2 h2 hl => h ds m2 (by rw [e]; omega) (.cons _ hl)
    · exact compM_sub xs m' _ (by omega) (fun y hy => hs y (List.mem_cons_of_mem _ hy)) fun ds m2 h2 hl => h (x :: ds) m2 (by rw [e]; omega) (.cons_cons _ hl)
/-- the wrong values put in their places -/
def putsD (args : List D) (wrong : List D) : List D := wrong.foldl (fun a b => match b with | .tup [.int i, d, _] => a.set i.toNat d | _ => a) args
theorem puts_len : ∀ {wrong args : List D}, (putsD args wrong).length = args.length
  | [], _ => rfl
  | b :: l, args => by
    show (putsD _ l).length = _
    rw [puts_len]
    dsimp only
    split <;> simp
theorem puts_take {args wr : List D} {i : Nat} {j : Int} {d c : D} (h : wr[i]? = some (.tup [.int j, d, c])) : putsD args (wr.take (i + 1)) = (putsD args (wr.take i)).set j.toNat d := by
  rw [List.take_succ, h]
  unfold putsD
  rw [List.foldl_append]
  rfl
def selD (xs : List D) (is : List Int) : List D := is.map fun i => xs.getD i.toNat .non
def selR (is : List Int) : D → D
  | .tup cs => .tup (selD cs is)
  | _ => .non
def dicT (ks rs : List D) : D := .dic [.inr "kinds", .inr "rows"] [.tup ks, .tup rs]
theorem zip_ints : ∀ {ns ms : List Int}, zipD (ns.map D.int) (ms.map D.int) = (ns.zip ms).map fun p => D.tup [.int p.1, .int p.2]
  | [], _ => by simp [zipD]
  | _ :: _, [] => by simp [zipD]
  | n :: ns, m :: ms => by
    have z := zip_ints (ns := ns) (ms := ms)
    unfold zipD at z ⊢
    simp only [List.map_cons, List.zip_cons_cons, z]
theorem rising_zip {ns : List Int} : zipD (ns.map D.int) ((ns.map D.int).drop 1) = (ns.zip (ns.drop 1)).map fun p => D.tup [.int p.1, .int p.2] := by
  rw [← List.map_drop, zip_ints]
def isNil (xs : List D) : Bool := xs.isEmpty
theorem len0 {xs : List D} : decide ((xs.length : Int) = 0) = xs.isEmpty := by
  cases xs with
  | nil => rfl
  | cons x t =>
    have : ¬ ((x :: t).length : Int) = 0 := by simp only [List.length_cons]; omega
    rw [decide_eq_false this]
    rfl
theorem intsOf_len {xs : List D} : (intsOf xs).length = xs.length := by simp [intsOf]
theorem ris_pair : ∀ {ns : List Int}, risB ns = true → ns.Pairwise (· < ·)
  | [], _ => .nil
  | [a], _ => List.pairwise_singleton _ _
  | a :: b :: l, h => by
    simp only [risB, Bool.and_eq_true, decide_eq_true_eq] at h
    have z := ris_pair h.2
    refine .cons (fun c hc => ?_) z
    rcases List.mem_cons.mp hc with rfl | hc
    · exact h.1
    · have := (List.pairwise_cons.mp z).1 c hc
      omega
theorem ris_nodup {ns : List Int} (h : risB ns = true) : ns.Nodup := (ris_pair h).imp fun h => by omega
theorem natsI_mem {m : Nat} {i : Int} (h : 0 ≤ i ∧ i < m) : i ∈ natsI m := by
  unfold natsI
  exact List.mem_map.mpr ⟨i.toNat, List.mem_range.mpr (by omega), by omega⟩
theorem natsI_len {m : Nat} : (natsI m).length = m := by simp [natsI]
theorem box_len {m : Nat} {is : List Int} (h : is.Nodup) (g : ∀ i ∈ is, 0 ≤ i ∧ i < m) : is.length ≤ m := by
  have z := RZ.sub_len (ns := natsI m) h fun i hi => natsI_mem (g i hi)
  rw [natsI_len] at z
  exact z
theorem all_box {m : Nat} {xs : List D} (h : xs.all (betw 0 ((m : Int) - 1)) = true) : ∀ i ∈ intsOf xs, 0 ≤ i ∧ i < m := fun i hi => by
  obtain ⟨d, hd, rfl⟩ := List.mem_map.mp hi
  obtain ⟨_, h1, h2⟩ := betw_int (List.all_eq_true.mp h d hd)
  exact ⟨h1, by omega⟩
theorem sel_len {xs : List D} {is : List Int} : (selD xs is).length = is.length := by simp [selD]
theorem sel_in {xs : List D} {i : Int} (h : 0 ≤ i ∧ i < xs.length) : atD xs i = some (xs.getD i.toNat .non) ∧ xs.getD i.toNat .non ∈ xs := by
  obtain ⟨j, rfl⟩ := Int.eq_ofNat_of_zero_le h.1
  have hj : j < xs.length := by omega
  have e : xs[j]? = some xs[j] := List.getElem?_eq_getElem hj
  have e2 : xs.getD (Int.toNat (j : Int)) .non = xs[j] := by
    rw [Int.toNat_natCast, List.getD_eq_getElem?_getD, e]
    rfl
  rw [e2]
  exact ⟨at_nat e, List.getElem_mem hj⟩
theorem sel_mem {xs : List D} {is : List Int} {d : D} (h : ∀ i ∈ is, 0 ≤ i ∧ i < xs.length) (hd : d ∈ selD xs is) : d ∈ xs := by
  obtain ⟨i, hi, rfl⟩ := List.mem_map.mp hd
  exact (sel_in (h i hi)).2
theorem sel_get {xs : List D} {is : List Int} {j : Nat} {i : Int} (h : is[j]? = some i) : (selD xs is)[j]? = some (xs.getD i.toNat .non) := by
  unfold selD
  rw [List.getElem?_map, h]
  rfl
theorem sel_map {rs xs : List D} : xs.map (fun x => rs.getD (toI x).toNat .non) = selD rs (intsOf xs) := by
  unfold selD intsOf
  rw [List.map_map]
  rfl
theorem firstU_none_inv {m : Nat} {rs : List D} (h : (firstU m rs).isNone = true) : ∀ j < m, colU rs j = false := fun j hj => by
  have z : firstU m rs = none := by simpa using h
  have := List.find?_range_eq_none.mp z j hj
  simpa using this
theorem selR_at {cs : List D} {is : List Int} {j : Nat} {i : Int} (h : is[j]? = some i) : atN (selR is (.tup cs)) j = atN (.tup cs) i.toNat := by
  show (selD cs is).getD j .non = cs.getD i.toNat .non
  rw [List.getD_eq_getElem?_getD, sel_get h]
  rfl
theorem kept_good {ks rs : List D} {is : List Int} (g1 : kindsB (.tup ks) = true) (g2 : rowsB ks (.tup rs) = true) (h0 : 1 ≤ is.length) (hn : is.Nodup) (hb : ∀ i ∈ is, 0 ≤ i ∧ i < ks.length) :
    kindsB (.tup (selD ks is)) = true ∧ rowsB (selD ks is) (.tup (rs.map (selR is))) = true := by
  simp only [kindsB, Bool.and_eq_true, decide_eq_true_eq, List.all_eq_true] at g1
  simp only [rowsB, Bool.and_eq_true, decide_eq_true_eq, List.all_eq_true] at g2
  have hl := box_len hn hb
  constructor
  · simp only [kindsB, Bool.and_eq_true, decide_eq_true_eq, List.all_eq_true, sel_len]
    exact ⟨⟨h0, by omega⟩, fun d hd => g1.2 d (sel_mem hb hd)⟩
  · simp only [rowsB, Bool.and_eq_true, decide_eq_true_eq, List.all_eq_true, List.length_map, sel_len]
    refine ⟨⟨g2.1.1, fun d hd => ?_⟩, ?_⟩
    · obtain ⟨r, hr, rfl⟩ := List.mem_map.mp hd
      obtain ⟨cs, rfl, hl, hc⟩ := rowB_inv (g2.1.2 r hr)
      refine rowB_of (by rw [sel_len, sel_len]) fun j k c e1 e2 => ?_
      cases e : is[j]? with
      | none =>
        have : (selD ks is)[j]? = none := by unfold selD; rw [List.getElem?_map, e]; rfl
        rw [this] at e1
        cases e1
      | some i =>
        rw [sel_get e] at e1 e2
        cases e1
        cases e2
        have hi := hb i (List.mem_of_getElem? e)
        have hi1 : i.toNat < ks.length := by omega
        have hi2 : i.toNat < cs.length := by omega
        refine hc i.toNat _ _ ?_ ?_
        · rw [List.getD_eq_getElem?_getD, List.getElem?_eq_getElem hi1]; rfl
        · rw [List.getD_eq_getElem?_getD, List.getElem?_eq_getElem hi2]; rfl
    · have z : firstU is.length (rs.map (selR is)) = none := firstU_none fun j hj => by
        have e : is[j]? = some is[j] := List.getElem?_eq_getElem hj
        have hi := hb _ (List.getElem_mem hj)
        have hc := firstU_none_inv g2.2 is[j].toNat (by omega)
        unfold colU at hc ⊢
        rw [List.all_eq_false] at hc ⊢
        obtain ⟨r, hr, hn⟩ := hc
        obtain ⟨cs, rfl, _⟩ := rowB_inv (g2.1.2 r hr)
        exact ⟨_, List.mem_map_of_mem hr, by rw [selR_at e]; exact hn⟩
      rw [z]
      rfl
theorem kinds_nx {ks : List D} (h : kindsB (.tup ks) = true) : nxs ks = true := nxs_of fun d hd => by
  simp only [kindsB, Bool.and_eq_true, decide_eq_true_eq, List.all_eq_true] at h
  have z := h.2 d hd
  cases d <;> first | rfl | (simp [betw] at z)
theorem rows_nx {ks rs : List D} (h : rowsB ks (.tup rs) = true) : nxs rs = true := nxs_of fun d hd => by
  simp only [rowsB, Bool.and_eq_true, decide_eq_true_eq, List.all_eq_true] at h
  exact row_nx (h.1.2 d hd)
theorem len_pos {xs : List D} (h : (!xs.isEmpty) = true) : 1 ≤ xs.length := by
  cases xs with
  | nil => cases h
  | cons a b => simp
theorem ones_nil {α : Type} {b : α → Bool} : ∀ {xs : List α}, (ones b xs).isEmpty = xs.all fun x => !b x
  | [] => rfl
  | x :: xs => by
    have z := ones_nil (b := b) (xs := xs)
    unfold ones at z ⊢
    rw [List.filterMap_cons, List.all_cons]
    cases h : b x
    · simpa using z
    · rfl
def dupB (ns : List Int) : D → Bool
  | .tup [.int i, .int v] => (ns.take i.toNat).any (· == v)
  | _ => true
theorem dup_all {ns : List Int} : ((enumD 0 (ns.map D.int)).all fun d => !dupB ns d) = decide ns.Nodup := by
  rw [Bool.eq_iff_iff, decide_eq_true_iff, List.all_eq_true]
  have get : ∀ i (h : i < ns.length), (enumD 0 (ns.map D.int))[i]? = some (.tup [.int (i : Int), .int ns[i]]) := fun i h => by
    rw [enumD_get, List.getElem?_map, List.getElem?_eq_getElem h]
    simp
  constructor
  · intro h
    rw [List.Nodup, List.pairwise_iff_getElem]
    intro i j hi hj hij e
    have z := h _ (List.mem_of_getElem? (get j hj))
    simp only [dupB, Bool.not_eq_true', Int.toNat_natCast, List.any_eq_false] at z
    refine z ns[i] ?_ (by simpa using e)
    rw [List.mem_take_iff_getElem]
    exact ⟨i, by omega, rfl⟩
  · intro h d hd
    obtain ⟨i, hi, rfl⟩ := List.mem_iff_getElem.mp hd
    have hi' : i < ns.length := by rw [enumD_len, List.length_map] at hi; exact hi
    have e := get i hi'
    rw [List.getElem?_eq_getElem hi] at e
    rw [Option.some.inj e]
    simp only [dupB, Bool.not_eq_true', Int.toNat_natCast, List.any_eq_false]
    intro v hv he
    rw [List.mem_take_iff_getElem] at hv
    obtain ⟨j, hj, rfl⟩ := hv
    rw [List.Nodup, List.pairwise_iff_getElem] at h
    exact h j i (by omega) hi' (by omega) (by simpa using he)
def fallB : D → Bool
  | .tup [.int a, .int b] => decide (b ≤ a)
  | _ => true
theorem ris_all {ns : List Int} : ((ns.zip (ns.drop 1)).map fun p => D.tup [.int p.1, .int p.2]).all (fun d => !fallB d) = risB ns := by
  rw [List.all_map, ← risB_zip]
  refine congrArg (fun f => (ns.zip (ns.drop 1)).all f) (funext fun p => ?_)
  show (!decide (p.2 ≤ p.1)) = decide (p.1 < p.2)
  by_cases h : p.2 ≤ p.1
  · have h' : ¬ p.1 < p.2 := by omega
    simp [h, h']
  · have h' : p.1 < p.2 := by omega
    simp [h, h']
theorem kr_nodup : ([Sum.inr (Str.ofString "kinds"), Sum.inr (Str.ofString "rows")] : List Key).Nodup := by
  simp
  decide
theorem nxs_ints {ns : List Int} : nxs (ns.map D.int) = true := nxs_of fun d hd => by
  obtain ⟨i, _, rfl⟩ := List.mem_map.mp hd
  rfl
theorem at_last {xs : List D} (h : 0 < xs.length) : ∃ d, atD xs (-1) = some d ∧ d ∈ xs := by
  have e : ixN xs.length (-1) = some (xs.length - 1) := by
    unfold ixN
    rw [if_neg (by omega), if_pos (by omega)]
    congr 1
    omega
  refine ⟨xs[xs.length - 1], ?_, List.getElem_mem _⟩
  unfold atD
  rw [e]
  exact List.getElem?_eq_getElem (by omega)
theorem okR_int {i : Int} (h : i.natAbs < 1000) : okR (.int i) := by
  obtain ⟨p, e, h1, h2, h3, h4⟩ := sm_toP (.int i) (by simpa [smB] using h)
  cases e
  refine ⟨h1, h2, ?_, ?_⟩
  · simp only [dpB] at h3
    omega
  · simp only [lnB] at h4
    omega
theorem firstU_filter {m : Nat} {rs : List D} : ((List.range m).filter (colU rs)).head? = firstU m rs := List.head?_filter ..
theorem firstU_lt {m j : Nat} {rs : List D} (h : firstU m rs = some j) : j < m := List.mem_range.mp (List.mem_of_find?_eq_some h)
theorem picked_good {ks rs : List D} {is : List Int} (g1 : kindsB (.tup ks) = true) (g2 : rowsB ks (.tup rs) = true) (h0 : 1 ≤ is.length) (hn : is.Nodup) (hb : ∀ i ∈ is, 0 ≤ i ∧ i < rs.length) (hf : firstU ks.length (selD rs is) = none) : rowsB ks (.tup (selD rs is)) = true := by
  simp only [rowsB, Bool.and_eq_true, decide_eq_true_eq, List.all_eq_true] at g2 ⊢
  have hl := box_len hn hb
  exact ⟨⟨⟨by rw [sel_len]; exact h0, by rw [sel_len]; omega⟩, fun d hd => g2.1.2 d (sel_mem hb hd)⟩, by rw [hf]; rfl⟩
theorem sh_non : shortD .non = true := rfl
theorem sh_int {i : Int} : shortD (.int i) = true := rfl
theorem sh_str {z : Str} : shortD (.str z) = true := rfl
theorem sh_lst {l : List D} : shortD (.lst l) = true := rfl
theorem sh_dic {ks : List Key} {l : List D} : shortD (.dic ks l) = true := rfl
theorem sh_tup {l : List D} : shortD (.tup l) = decide (l.length ≤ 100) := rfl
theorem perm_ints {ys : List D} {k : Nat} (h : ys.Perm (natsD k)) : ys = (intsOf ys).map D.int ∧ (intsOf ys).length = k := by
  have z : ∀ zs : List D, (∀ d ∈ zs, d = .int (toI d)) → zs = (intsOf zs).map D.int := fun zs hz => by
    induction zs with
    | nil => rfl
    | cons a l ih =>
      show a :: l = D.int (toI a) :: (intsOf l).map D.int
      rw [← hz a List.mem_cons_self, ← ih fun d hd => hz d (List.mem_cons_of_mem _ hd)]
  refine ⟨z ys fun d hd => ?_, ?_⟩
  · obtain ⟨i, _, rfl⟩ := List.mem_map.mp (h.subset hd)
    rfl
  · rw [intsOf_len, h.length_eq]
    simp [natsD, natsI_len]
theorem cut_ints {ys : List D} {j : Nat} (h : ys = (intsOf ys).map D.int) : cutD ys none (some ((1 : Int) + (j : Int))) = ((intsOf ys).take (1 + j)).map D.int := by
  have e : (1 : Int) + (j : Int) = ((1 + j : Nat) : Int) := by omega
  rw [e, cut_to]
  conv => lhs; rw [h]
  rw [List.map_take]
theorem natsD_len {k : Nat} : (natsD k).length = k := by simp [natsD, natsI_len]
/-! ### tables made of tables -/
def colB (m : Nat) (k : D) : D → Bool
  | .tup cs => decide (cs.length = m) && cs.all (cellB k) && cs.any (fun c => !DL.isNon c)
  | _ => false
def addCol (rs cs : List D) : List D := (rs.zip cs).map fun p => match p.1 with | .tup r => .tup (r ++ [p.2]) | _ => .non
def putC (rs : List D) (v m : Nat) (c : D) : List D := rs.set v (match rs.getD v .non with | .tup cs => .tup (cs.set m c) | _ => .non)
theorem row_good {ks rs : List D} {d : D} (g2 : rowsB ks (.tup rs) = true) (h : rowB ks d = true) (hl : rs.length ≠ 12) : rowsB ks (.tup (rs ++ [d])) = true := by
  simp only [rowsB, Bool.and_eq_true, decide_eq_true_eq, List.all_eq_true] at g2 ⊢
  refine ⟨⟨⟨by simp, by simp; omega⟩, fun r hr => ?_⟩, ?_⟩
  · rcases List.mem_append.mp hr with hr | hr
    · exact g2.1.2 r hr
    · rw [List.mem_singleton] at hr
      rw [hr]
      exact h
  · have z : firstU ks.length (rs ++ [d]) = none := firstU_none fun j hj => by
      have hc := firstU_none_inv g2.2 j hj
      unfold colU at hc ⊢
      rw [List.all_append, hc]
      rfl
    rw [z]
    rfl
theorem addCol_get {rs cs : List D} {i : Nat} {r : List D} {c : D} (e1 : rs[i]? = some (.tup r)) (e2 : cs[i]? = some c) : (addCol rs cs)[i]? = some (.tup (r ++ [c])) := by
  unfold addCol
  rw [List.getElem?_map, List.getElem?_zip_eq_some.mpr (show rs[i]? = some (D.tup r, c).1 ∧ cs[i]? = some (D.tup r, c).2 from ⟨e1, e2⟩)]
  rfl
theorem addCol_len {rs cs : List D} (h : cs.length = rs.length) : (addCol rs cs).length = rs.length := by
  unfold addCol
  rw [List.length_map, List.length_zip]
  omega
theorem col_good {ks rs cs : List D} {k : D} (g1 : kindsB (.tup ks) = true) (g2 : rowsB ks (.tup rs) = true) (hk : betw 1 6 k = true) (hc : colB rs.length k (.tup cs) = true) (hl : ks.length ≠ 8) :
    kindsB (.tup (ks ++ [k])) = true ∧ rowsB (ks ++ [k]) (.tup (addCol rs cs)) = true := by
  simp only [kindsB, Bool.and_eq_true, decide_eq_true_eq, List.all_eq_true] at g1
  simp only [rowsB, Bool.and_eq_true, decide_eq_true_eq, List.all_eq_true] at g2
  simp only [colB, Bool.and_eq_true, decide_eq_true_eq, List.all_eq_true, List.any_eq_true] at hc
  obtain ⟨⟨c1, c2⟩, c, c3, c4⟩ := hc
  constructor
  · simp only [kindsB, Bool.and_eq_true, decide_eq_true_eq, List.all_eq_true]
    refine ⟨⟨by simp, by simp; omega⟩, fun r hr => ?_⟩
    rcases List.mem_append.mp hr with hr | hr
    · exact g1.2 r hr
    · rw [List.mem_singleton] at hr
      rw [hr]
      exact hk
  · simp only [rowsB, Bool.and_eq_true, decide_eq_true_eq, List.all_eq_true]
    have hal := addCol_len c1
    have row : ∀ i, i < rs.length → ∃ (r : List D) (x : D), rs[i]? = some (.tup r) ∧ cs[i]? = some x ∧ r.length = ks.length ∧ (addCol rs cs)[i]? = some (.tup (r ++ [x])) := fun i hi => by
      obtain ⟨r, e, hl2, _⟩ := rowB_inv (g2.1.2 rs[i] (List.getElem_mem hi))
      have e1 : rs[i]? = some (.tup r) := by rw [List.getElem?_eq_getElem hi, e]
      have e2 : cs[i]? = some cs[i] := List.getElem?_eq_getElem (by omega)
      exact ⟨r, _, e1, e2, hl2, addCol_get e1 e2⟩
    refine ⟨⟨⟨by omega, by omega⟩, fun d hd => ?_⟩, ?_⟩
    · obtain ⟨i, hi, rfl⟩ := List.mem_iff_getElem.mp hd
      have hi' : i < rs.length := by omega
      obtain ⟨r, x, e1, e2, e3, e4⟩ := row i hi'
      rw [List.getElem?_eq_getElem hi] at e4
      rw [Option.some.inj e4]
      have hr := g2.1.2 _ (List.mem_of_getElem? e1)
      obtain ⟨r', er, _, hc2⟩ := rowB_inv hr
      cases er
      refine rowB_of (by simp [e3]) fun j k' c' f1 f2 => ?_
      by_cases hj : j < ks.length
      · rw [List.getElem?_append_left hj] at f1
        rw [List.getElem?_append_left (by omega)] at f2
        exact hc2 j k' c' f1 f2
      · by_cases hj2 : j = ks.length
        · rw [List.getElem?_append_right (by omega)] at f1 f2
          rw [hj2] at f1 f2
          rw [e3] at f2
          simp at f1 f2
          rw [← f1, ← f2]
          exact c2 x (List.mem_of_getElem? e2)
        · rw [List.getElem?_eq_none (by simp; omega)] at f1
          cases f1
    · have z : firstU (ks ++ [k]).length (addCol rs cs) = none := firstU_none fun j hj => by
        by_cases hj1 : j < ks.length
        · have hc := firstU_none_inv g2.2 j hj1
          unfold colU at hc ⊢
          rw [List.all_eq_false] at hc ⊢
          obtain ⟨r, hr, hn⟩ := hc
          obtain ⟨i, hi, rfl⟩ := List.mem_iff_getElem.mp hr
          obtain ⟨r, x, e1, e2, e3, e4⟩ := row i hi
          refine ⟨_, List.mem_of_getElem? e4, ?_⟩
          rw [List.getElem?_eq_getElem hi] at e1
          rw [Option.some.inj e1] at hn
          have : atN (.tup (r ++ [x])) j = atN (.tup r) j := by
            show (r ++ [x]).getD j .non = r.getD j .non
            rw [List.getD_eq_getElem?_getD, List.getD_eq_getElem?_getD, List.getElem?_append_left (by omega)]
          rw [this]
          exact hn
        · have hj2 : j = ks.length := by simp at hj; omega
          unfold colU
          rw [List.all_eq_false]
          obtain ⟨i, hi, rfl⟩ := List.mem_iff_getElem.mp c3
          obtain ⟨r, x, e1, e2, e3, e4⟩ := row i (by omega)
          rw [List.getElem?_eq_getElem hi] at e2
          have e2 := Option.some.inj e2
          refine ⟨_, List.mem_of_getElem? e4, ?_⟩
          have : atN (.tup (r ++ [x])) j = x := by
            show (r ++ [x]).getD j .non = x
            rw [List.getD_eq_getElem?_getD, List.getElem?_append_right (by omega), hj2, e3]
            simp
          rw [this, ← e2]
          simpa using c4
      rw [z]
      rfl
def joinP : D → D
  | .tup [.tup r, c] => .tup (r ++ [c])
  | _ => .non
theorem zip_add {rs cs : List D} (h : cs.length = rs.length) (hr : ∀ r ∈ rs, ∃ c : List D, r = .tup c) : (zipD rs cs).map joinP = addCol rs cs := by
  unfold zipD addCol
  rw [List.map_map]
  refine List.map_congr_left fun p hp => ?_
  obtain ⟨c, e⟩ := hr p.1 (List.of_mem_zip hp).1
  show joinP (D.tup [p.1, p.2]) = _
  rw [e]
  rfl
theorem zipD_len {xs ys : List D} : (zipD xs ys).length = min xs.length ys.length := by simp [zipD]
theorem putC_eq {rs : List D} {i j : Nat} {c : D} {cs : List D} (hi : i < rs.length) (ec : rs[i] = .tup cs) : putC rs i j c = rs.set i (.tup (cs.set j c)) := by
  unfold putC
  rw [List.getD_eq_getElem?_getD, List.getElem?_eq_getElem hi, ec]
  rfl
theorem putC_rows {ks rs : List D} {i j : Nat} {k c : D} (hr : ∀ r ∈ rs, rowB ks r = true) (hi : i < rs.length) (hk : ks[j]? = some k) (hc : cellB k c = true) : ∀ r ∈ putC rs i j c, rowB ks r = true := fun r hm => by
  obtain ⟨cs, ec, hcl, _⟩ := rowB_inv (hr rs[i] (List.getElem_mem hi))
  rw [putC_eq hi ec] at hm
  rcases List.mem_or_eq_of_mem_set hm with h | h
  · exact hr r h
  · rw [h]
    have z := hr rs[i] (List.getElem_mem hi)
    rw [ec] at z
    exact rowB_set z hk hc
theorem putC_len {rs : List D} {i j : Nat} {c : D} : (putC rs i j c).length = rs.length := by simp [putC]
theorem putC_col {ks rs : List D} {i j u : Nat} {c : D} (hr : ∀ r ∈ rs, rowB ks r = true) (hi : i < rs.length) (hu : u ≠ j) (h : colU rs u = false) : colU (putC rs i j c) u = false := by
  obtain ⟨cs, ec, hcl, _⟩ := rowB_inv (hr rs[i] (List.getElem_mem hi))
  rw [putC_eq hi ec]
  exact col_set h hi (by rw [atN_set (Ne.symm hu), ec])
def clrD (j : Nat) : D → D
  | .tup cs => .tup (cs.set j .non)
  | _ => .non
theorem lonely_good {ks rs cs : List D} {i j : Nat} {k d : D} (g2 : rowsB ks (.tup rs) = true) (hi : i < rs.length) (ek : ks[j]? = some k) (ec : rs[i] = .tup cs) (hd : cellB k d = true) (hn : DL.isNon d = false) : rowsB ks (.tup ((rs.map (clrD j)).set i (.tup (cs.set j d)))) = true := by
  simp only [rowsB, Bool.and_eq_true, decide_eq_true_eq, List.all_eq_true] at g2 ⊢
  have hj := (List.getElem?_eq_some_iff.mp ek).1
  have hrow := g2.1.2 rs[i] (List.getElem_mem hi)
  rw [ec] at hrow
  have hcl : cs.length = ks.length := by
    obtain ⟨c2, e, h, _⟩ := rowB_inv hrow
    cases e
    exact h
  refine ⟨⟨by simp; omega, fun r hr => ?_⟩, ?_⟩
  · rcases List.mem_or_eq_of_mem_set hr with h | h
    · obtain ⟨r0, hr0, rfl⟩ := List.mem_map.mp h
      have z := g2.1.2 r0 hr0
      obtain ⟨c2, rfl, _⟩ := rowB_inv z
      exact rowB_set z ek rfl
    · rw [h]
      exact rowB_set hrow ek hd
  · have z : firstU ks.length ((rs.map (clrD j)).set i (.tup (cs.set j d))) = none := firstU_none fun u hu => by
      have hil : i < (rs.map (clrD j)).length := by simpa using hi
      by_cases huj : u = j
      · subst huj
        unfold colU
        rw [List.all_eq_false]
        exact ⟨_, mem_set' hil, by rw [atN_self (by omega), hn]; simp⟩
      · have hc := firstU_none_inv g2.2 u hu
        have h1 : colU (rs.map (clrD j)) u = false := by
          unfold colU at hc ⊢
          rw [List.all_eq_false] at hc ⊢
          obtain ⟨r, hr, hn2⟩ := hc
          obtain ⟨c2, rfl, _⟩ := rowB_inv (g2.1.2 r hr)
          refine ⟨_, List.mem_map_of_mem hr, ?_⟩
          show ¬ DL.isNon (atN (.tup (c2.set j .non)) u) = true
          rw [atN_set (Ne.symm huj)]
          exact hn2
        refine col_set h1 hil ?_
        rw [List.getElem_map, ec]
        show atN (.tup (cs.set j d)) u = atN (.tup (cs.set j .non)) u
        rw [atN_set (Ne.symm huj), atN_set (Ne.symm huj)]
    rw [z]
    rfl
theorem putC_good {ks rs : List D} {i j : Nat} {k c : D} (g2 : rowsB ks (.tup rs) = true) (hi : i < rs.length) (hk : ks[j]? = some k) (hc : cellB k c = true) (hf : firstU ks.length (putC rs i j c) = none) : rowsB ks (.tup (putC rs i j c)) = true := by
  simp only [rowsB, Bool.and_eq_true, decide_eq_true_eq, List.all_eq_true] at g2 ⊢
  exact ⟨⟨by rw [putC_len]; exact g2.1.1, putC_rows g2.1.2 hi hk hc⟩, by rw [hf]; rfl⟩
theorem putC_unread {ks rs : List D} {i j u : Nat} {c : D} (g2 : rowsB ks (.tup rs) = true) (hi : i < rs.length) (hf : firstU ks.length (putC rs i j c) = some u) : u = j := by
  simp only [rowsB, Bool.and_eq_true, decide_eq_true_eq, List.all_eq_true] at g2
  apply Decidable.byContradiction
  intro z
  have h1 := List.find?_some hf
  have h2 := putC_col (c := c) g2.1.2 hi z (firstU_none_inv g2.2 u (firstU_lt hf))
  rw [h2] at h1
  cases h1
theorem sub_cons {α : Type} {x : α} {l w : List α} (h : w.Sublist (x :: l)) : w.Sublist l ∨ ∃ t, w = x :: t ∧ t.Sublist l := by
  cases h with
  | cons _ h => exact .inl h
  | cons_cons _ h => exact .inr ⟨_, rfl, h⟩
theorem sub_nil {α : Type} {w : List α} (h : w.Sublist []) : w = [] := by
  cases h
  rfl
theorem rep_flat {m : Nat} {k : D} : (List.replicate m [k]).flatten = List.replicate m k := by
  induction m with
  | zero => rfl
  | succ m ih => rw [List.replicate_succ, List.flatten_cons, ih, List.replicate_succ]; rfl
theorem zip_rep {k : D} : ∀ {cs : List D} {m : Nat}, cs.length = m → ((List.replicate m k).zip cs).all (fun p => cellB p.1 p.2) = cs.all (cellB k)
  | [], m, h => by simp
  | c :: cs, 0, h => by simp at h
  | c :: cs, m + 1, h => by
    rw [List.replicate_succ, List.zip_cons_cons, List.all_cons, List.all_cons, zip_rep (by simpa using h)]
theorem row_rep {m : Nat} {k : D} {cs : List D} : rowB (List.replicate m k) (.tup cs) = (decide (cs.length = m) && cs.all (cellB k)) := by
  simp only [rowB, List.length_replicate]
  by_cases h : cs.length = m
  · rw [zip_rep h]
  · simp [h]
theorem rep_kinds {m : Nat} {k : Int} (h1 : 1 ≤ k) (h2 : k ≤ 6) : (List.replicate m (D.int k)).all (betw 1 6) = true := by
  rw [List.all_eq_true]
  intro x hx
  rw [(List.mem_replicate.mp hx).2]
  simp [betw, h1, h2]
/-! ### tables told over and over -/
def tile (k : Nat) (xs : List D) : List D := (List.replicate k xs).flatten.take k
theorem t12 {xs : List D} : cutD (List.replicate (Int.toNat 12) xs).flatten none (some 12) = tile 12 xs := cut_to (i := 12)
theorem t8 {xs : List D} : cutD (List.replicate (Int.toNat 8) xs).flatten none (some 8) = tile 8 xs := cut_to (i := 8)
theorem rep_get {xs : List D} : ∀ {m j : Nat}, j < m * xs.length → (List.replicate m xs).flatten[j]? = xs[j % xs.length]?
  | 0, j, h => by simp at h
  | m + 1, j, h => by
    rw [List.replicate_succ, List.flatten_cons]
    by_cases hj : j < xs.length
    · rw [List.getElem?_append_left hj, Nat.mod_eq_of_lt hj]
    · rw [List.getElem?_append_right (by omega), rep_get (by rw [Nat.succ_mul] at h; omega), Nat.mod_eq_sub_mod (by omega : xs.length ≤ j)]
theorem tile_get {xs : List D} {k j : Nat} (h : 1 ≤ xs.length) (hj : j < k) : (tile k xs)[j]? = xs[j % xs.length]? := by
  unfold tile
  rw [List.getElem?_take_of_lt hj]
  refine rep_get ?_
  have := Nat.mul_le_mul_left k h
  omega
theorem tile_len {xs : List D} {k : Nat} (h : 1 ≤ xs.length) : (tile k xs).length = k := by
  unfold tile
  rw [List.length_take, List.length_flatten]
  have := Nat.mul_le_mul_left k h
  simp
  omega
theorem tile_mem {xs : List D} {k : Nat} {d : D} (h : d ∈ tile k xs) : d ∈ xs := by
  have z := List.mem_of_mem_take h
  obtain ⟨l, hl, hd⟩ := List.mem_flatten.mp z
  rw [(List.mem_replicate.mp hl).2] at hd
  exact hd
theorem mem_tile {xs : List D} {k : Nat} {d : D} (h : d ∈ xs) (hk : xs.length ≤ k) : d ∈ tile k xs := by
  obtain ⟨i, hi, rfl⟩ := List.mem_iff_getElem.mp h
  refine List.mem_of_getElem? (i := i) ?_
  rw [tile_get (by omega) (by omega), Nat.mod_eq_of_lt hi]
  exact List.getElem?_eq_getElem hi
theorem tile_rows {ks rs : List D} (g2 : rowsB ks (.tup rs) = true) : rowsB ks (.tup (tile 12 rs)) = true := by
  simp only [rowsB, Bool.and_eq_true, decide_eq_true_eq, List.all_eq_true] at g2 ⊢
  refine ⟨⟨by rw [tile_len g2.1.1.1]; decide, fun r hr => g2.1.2 r (tile_mem hr)⟩, ?_⟩
  have z : firstU ks.length (tile 12 rs) = none := firstU_none fun j hj => by
    have hc := firstU_none_inv g2.2 j hj
    unfold colU at hc ⊢
    rw [List.all_eq_false] at hc ⊢
    obtain ⟨r, hr, hn⟩ := hc
    exact ⟨r, mem_tile hr g2.1.1.2, hn⟩
  rw [z]
  rfl
def tileR : D → D
  | .tup cs => .tup (tile 8 cs)
  | _ => .non
theorem tile_cols {ks rs : List D} (g1 : kindsB (.tup ks) = true) (g2 : rowsB ks (.tup rs) = true) : kindsB (.tup (tile 8 ks)) = true ∧ rowsB (tile 8 ks) (.tup (rs.map tileR)) = true := by
  simp only [kindsB, Bool.and_eq_true, decide_eq_true_eq, List.all_eq_true] at g1 ⊢
  simp only [rowsB, Bool.and_eq_true, decide_eq_true_eq, List.all_eq_true] at g2 ⊢
  have lk := tile_len (k := 8) g1.1.1
  refine ⟨⟨by omega, fun d hd => g1.2 d (tile_mem hd)⟩, ⟨by simpa using g2.1.1, fun d hd => ?_⟩, ?_⟩
  · obtain ⟨r, hr, rfl⟩ := List.mem_map.mp hd
    obtain ⟨cs, rfl, hl, hc⟩ := rowB_inv (g2.1.2 r hr)
    refine rowB_of (by rw [tile_len (by omega), lk]) fun j k c e1 e2 => ?_
    have hj : j < 8 := by
      have := (List.getElem?_eq_some_iff.mp e1).1
      omega
    rw [tile_get g1.1.1 hj] at e1
    rw [tile_get (by omega) hj, hl] at e2
    exact hc _ k c e1 e2
  · rw [lk]
    have z : firstU 8 (rs.map tileR) = none := firstU_none fun j hj => by
      have hm : j % ks.length < ks.length := Nat.mod_lt _ (by omega)
      have hc := firstU_none_inv g2.2 _ hm
      unfold colU at hc ⊢
      rw [List.all_eq_false] at hc ⊢
      obtain ⟨r, hr, hn⟩ := hc
      obtain ⟨cs, rfl, hl, _⟩ := rowB_inv (g2.1.2 r hr)
      refine ⟨_, List.mem_map_of_mem hr, ?_⟩
      have e : atN (tileR (.tup cs)) j = atN (.tup cs) (j % ks.length) := by
        show (tile 8 cs).getD j .non = cs.getD (j % ks.length) .non
        rw [List.getD_eq_getElem?_getD, List.getD_eq_getElem?_getD, tile_get (by omega) hj, hl]
      rw [e]
      exact hn
    rw [z]
    rfl

abbrev s_law_caught : Stmt := topS 42
theorem sc_law_caught : FnScope ["work", "caught", "error"] ["work"] (defScope s_law_caught) := ⟨rfl, rfl, rfl, by decide +kernel, rfl, by decide +kernel, by decide +kernel⟩
abbrev s_with_matter : Stmt := topS 36
abbrev s_read : Stmt := topS 32
abbrev s_with_row : Stmt := topS 35
def ds_is_number : DSp0 := fun ss n P => ∃ d, ss = [.d d] ∧ bareD d ∧ P (.bl (isInt d)) n
theorem len_is_number : ∀ ss n P, ds_is_number ss n P → ss.length = 1 := by rintro ss n P ⟨d, rfl, _⟩; rfl

def ds_is_between : DSp0 := fun ss n P => ∃ d lo hi, ss = [.d d, .d (.int lo), .d (.int hi)] ∧ bareD d ∧ P (.bl (betw lo hi d)) n
theorem len_is_between : ∀ ss n P, ds_is_between ss n P → ss.length = 3 := by rintro ss n P ⟨d, lo, hi, rfl, _⟩; rfl

def ds_is_kind : DSp0 := fun ss n P => ∃ d, ss = [.d d] ∧ bareD d ∧ P (.bl (betw 1 6 d)) n
theorem len_is_kind : ∀ ss n P, ds_is_kind ss n P → ss.length = 1 := by rintro ss n P ⟨d, rfl, _⟩; rfl

def ds_are_kinds : DSp0 := fun ss n P => ∃ d, ss = [.d d] ∧ nx d = true ∧ P (.bl (kindsB d)) n
theorem len_are_kinds : ∀ ss n P, ds_are_kinds ss n P → ss.length = 1 := by rintro ss n P ⟨d, rfl, _⟩; rfl

def ds_is_cell : DSp0 := fun ss n P => ∃ k d, ss = [.d (.int k), .d d] ∧ bareD d ∧ P (.bl (cellB (.int k) d)) n
theorem len_is_cell : ∀ ss n P, ds_is_cell ss n P → ss.length = 2 := by rintro ss n P ⟨k, d, rfl, _⟩; rfl

def ds_is_row_for : DSp0 := fun ss n P => ∃ ks d, ss = [.d (.tup ks), .d d] ∧ nx d = true ∧ ks.length ≤ 100 ∧ ks.all (betw 1 6) = true ∧ P (.bl (rowB ks d)) n
theorem len_is_row_for : ∀ ss n P, ds_is_row_for ss n P → ss.length = 2 := by rintro ss n P ⟨k, d, rfl, _⟩; rfl

def ds_first_unread : DSp0 := fun ss n P => ∃ m rs, ss = [.d (.tup rs)] ∧ 1 ≤ rs.length ∧ rs.length ≤ 100 ∧ m ≤ 100 ∧ (∀ r ∈ rs, ∃ cs, r = .tup cs ∧ cs.length = m) ∧ P (match firstU m rs with | some j => .int j | none => .non) n
theorem len_first_unread : ∀ ss n P, ds_first_unread ss n P → ss.length = 1 := by rintro ss n P ⟨m, k, rfl, _⟩; rfl

def ds_are_rows : DSp0 := fun ss n P => ∃ ks d, ss = [.d (.tup ks), .d d] ∧ nx d = true ∧ kindsB (.tup ks) = true ∧ P (.bl (rowsB ks d)) n
theorem len_are_rows : ∀ ss n P, ds_are_rows ss n P → ss.length = 2 := by rintro ss n P ⟨k, d, rfl, _⟩; rfl

def ds_law_is_whole : DSp0 := fun ss n P => ∃ d, ss = [.d d] ∧ bareD d ∧ P (.bl (isInt d)) n
theorem len_law_is_whole : ∀ ss n P, ds_law_is_whole ss n P → ss.length = 1 := by rintro ss n P ⟨d, rfl, _⟩; rfl

def ds_law_is_below : DSp0 := fun ss n P => ∃ d k, ss = [.d d, .d (.int k)] ∧ bareD d ∧ P (.bl (betw 0 (k - 1) d)) n
theorem len_law_is_below : ∀ ss n P, ds_law_is_below ss n P → ss.length = 2 := by rintro ss n P ⟨d, hi, rfl, _⟩; rfl

def ds_law_less : DSp0 := fun ss n P => ∃ xs i, ss = [.d (.tup xs), .d (.int (i : Nat))] ∧ i < xs.length ∧ xs.length ≤ 100 ∧ P (.tup (xs.take i ++ xs.drop (i + 1))) n
theorem len_law_less : ∀ ss n P, ds_law_less ss n P → ss.length = 2 := by rintro ss n P ⟨d, hi, rfl, _⟩; rfl

def ds_law_put : DSp0 := fun ss n P => ∃ xs i d, ss = [.d (.tup xs), .d (.int (i : Nat)), .d d] ∧ i < xs.length ∧ xs.length ≤ 100 ∧ P (.tup (xs.take i ++ [d] ++ xs.drop (i + 1))) n
theorem len_law_put : ∀ ss n P, ds_law_put ss n P → ss.length = 3 := by rintro ss n P ⟨xs, hi, d, rfl, _⟩; rfl

def ds_law_is_row : DSp0 := fun ss n P => ∃ ks d, ss = [.d (.tup ks), .d d] ∧ nx d = true ∧ ks.length ≤ 100 ∧ ks.all (betw 1 6) = true ∧ P (.bl (rowB ks d)) n
theorem len_law_is_row : ∀ ss n P, ds_law_is_row ss n P → ss.length = 2 := by rintro ss n P ⟨k, d, rfl, _⟩; rfl

def ds_law_draw : DSp0 := fun ss n P => ∃ z, ss = [.st, .d (.int z)] ∧ 0 < z ∧ z < 1073741824 ∧ n < LIM ∧ ∀ r n', 0 ≤ r → r < z → n' ≤ n + 1 → P (.int r) n'
theorem len_law_draw : ∀ ss n P, ds_law_draw ss n P → ss.length = 2 := by rintro ss n P ⟨z, rfl, _⟩; rfl

def ds_law_pick : DSp0 := fun ss n P => ∃ xs, (ss = [.st, .d (.tup xs)] ∨ ss = [.st, .d (.lst xs)]) ∧ 0 < xs.length ∧ xs.length ≤ 1000 ∧ n < LIM ∧ ∀ x ∈ xs, ∀ n', n' ≤ n + 1 → P x n'
theorem len_law_pick : ∀ ss n P, ds_law_pick ss n P → ss.length = 2 := by rintro ss n P ⟨xs, rfl | rfl, _⟩ <;> rfl

def ds_law_bad_table : DSp0 := fun ss n P => ss = [.st] ∧ n < LIM ∧ ∀ d n', n' ≤ n + 1 → nx d = true → (∀ C ns ds, d ≠ .ins C ns ds) → P d n'
theorem len_law_bad_table : ∀ ss n P, ds_law_bad_table ss n P → ss.length = 1 := by rintro ss n P ⟨rfl, _⟩; rfl

def ds_law_cell : DSp0 := fun ss n P => ∃ k, ss = [.st, .d (.int k)] ∧ 1 ≤ k ∧ k ≤ 6 ∧ n + 2 < LIM ∧ ∀ d n', n' ≤ n + 2 → cellB (.int k) d = true → P d n'
theorem len_law_cell : ∀ ss n P, ds_law_cell ss n P → ss.length = 2 := by rintro ss n P ⟨z, rfl, _⟩; rfl

def ds_law_first_unread : DSp0 := fun ss n P => ∃ m rs, ss = [.d (.int (m : Nat)), .d (.tup rs)] ∧ m ≤ 100 ∧ rs.length ≤ 100 ∧ (∀ r ∈ rs, ∃ cs, r = .tup cs ∧ cs.length = m) ∧ P (.lst (((List.range m).filter (colU rs)).map fun (j : Nat) => D.int (j : Int))) n
theorem len_law_first_unread : ∀ ss n P, ds_law_first_unread ss n P → ss.length = 2 := by rintro ss n P ⟨m, rs, rfl, _⟩; rfl

def ds_law_spoilt_row : DSp0 := fun ss n P => ∃ ks cs, ss = [.st, .d (.tup ks), .d (.tup cs)] ∧ nxs cs = true ∧ cs.length = ks.length ∧ 1 ≤ ks.length ∧ ks.length ≤ 100 ∧ ks.all (betw 1 6) = true ∧ n + 5 < LIM ∧ ∀ d n', n' ≤ n + 5 → nx d = true → P d n'
theorem len_law_spoilt_row : ∀ ss n P, ds_law_spoilt_row ss n P → ss.length = 3 := by rintro ss n P ⟨k, d, rfl, _⟩; rfl

def ds_Table_init (cs : Cs) : DSI := fun ss n P XP => ∃ k r, ss = [.d k, .d r] ∧ nx k = true ∧ nx r = true ∧
  (kindsB k = false → XP cs.BadKinds [] [] n) ∧ (kindsB k = true → rowsB (match k with | .tup ks => ks | _ => []) r = false → XP cs.BadRows [] [] n) ∧ (kindsB k = true → rowsB (match k with | .tup ks => ks | _ => []) r = true → P kR [k, r] n)
theorem len_Table_init (cs : Cs) : ∀ ss n P XP, ds_Table_init cs ss n P XP → ss.length + 1 = 3 := by rintro ss n P XP ⟨k, r, rfl, _⟩; rfl

def ds_check_table (cs : Cs) : DSp := fun ss n P XP => ∃ d, ss = [.d d] ∧ ((∃ ks rs, d = tabD cs.Table ks rs ∧ P .non n) ∨ (nx d = true ∧ (∀ C ns ds, d ≠ .ins C ns ds) ∧ XP cs.BadTable [] [] n))
theorem len_check_table (cs : Cs) : ∀ ss n P XP, ds_check_table cs ss n P XP → ss.length = 1 := by rintro ss n P XP ⟨d, rfl, _⟩; rfl

def ds_is_row (cs : Cs) : DSp := fun ss n P XP => ∃ t d, ss = [.d t, .d d] ∧ ((∃ ks rs, t = tabD cs.Table ks rs ∧ nx d = true ∧ kindsB (.tup ks) = true ∧ P (.bl (rowB ks d)) n) ∨ (nx t = true ∧ (∀ C ns ds, t ≠ .ins C ns ds) ∧ XP cs.BadTable [] [] n))
theorem len_is_row (cs : Cs) : ∀ ss n P XP, ds_is_row cs ss n P XP → ss.length = 2 := by rintro ss n P XP ⟨d, t, rfl, _⟩; rfl

def ds_law_made (cs : Cs) : DSp0 := fun ss n P => ∃ ks rs, ss = [.d (.dic [.inr "kinds", .inr "rows"] [.tup ks, .tup rs])] ∧ nxs ks = true ∧ nxs rs = true ∧ kindsB (.tup ks) = true ∧ rowsB ks (.tup rs) = true ∧ P (tabD cs.Table ks rs) n
theorem len_law_made (cs : Cs) : ∀ ss n P, ds_law_made cs ss n P → ss.length = 1 := by rintro ss n P ⟨ks, rs, rfl, _⟩; rfl

def ds_law_no_table (cs : Cs) : DSp0 := fun ss n P => ss = [.d (.exc cs.BadTable [] [])] ∧ P (.bl true) n
theorem len_law_no_table (cs : Cs) : ∀ ss n P, ds_law_no_table cs ss n P → ss.length = 1 := by rintro ss n P ⟨rfl, _⟩; rfl

def ds_law_same (cs : Cs) : DSp0 := fun ss n P => ∃ ks rs, ss = [.d (tabD cs.Table ks rs), .d (.dic [.inr "kinds", .inr "rows"] [.tup ks, .tup rs])] ∧ kindsB (.tup ks) = true ∧ rowsB ks (.tup rs) = true ∧ P (.bl true) n
theorem len_law_same (cs : Cs) : ∀ ss n P, ds_law_same cs ss n P → ss.length = 2 := by rintro ss n P ⟨ks, rs, rfl, _⟩; rfl

def ds_law_wide : DSp0 := fun ss n P => ss = [.st] ∧ n + 1000 < LIM ∧ ∀ ks rs n', n' ≤ n + 1000 → nxs ks = true → nxs rs = true → kindsB (.tup ks) = true → rowsB ks (.tup rs) = true → P (.dic [.inr "kinds", .inr "rows"] [.tup ks, .tup rs]) n'
theorem len_law_wide : ∀ ss n P, ds_law_wide ss n P → ss.length = 1 := by rintro ss n P ⟨rfl, _⟩; rfl



def ds_law_refused (K : PySem.W.Frag) (cs : Cs) (LD : LamP) (HD : HldP) : DSp0 := fun ss n P => ∃ F G args bads, ss = [.st, .fv F, .d (.lst args), .d (.lst bads)] ∧ LD F G ∧ 1 ≤ bads.length ∧ bads.length ≤ 100 ∧ args.length ≤ 100 ∧ n + 200 < LIM ∧
  (∀ b ∈ bads, ∃ (i : Nat) (d : D) (f : Addr), b = .tup [.int (i : Int), d, .fnv f] ∧ i < args.length) ∧
  ∀ (wrong : List D) (m i : Nat) (d : D) (f : Addr), wrong.Sublist bads → wrong.head? = some (.tup [.int (i : Int), d, .fnv f]) → m ≤ n + 200 →
    ∀ (P' : DQ) (XP' : DX), (∀ C ns ds n1, (ErrC K cs.FoundError C ∧ ∃ DS : DSp0, HD f DS ∧ DS [.d (.exc C ns ds)] n1 P) → XP' C ns ds n1) → G (.lst (putsD args wrong)) m P' XP'
theorem len_law_refused (K : PySem.W.Frag) (cs : Cs) (LD : LamP) (HD : HldP) : ∀ ss n P, ds_law_refused K cs LD HD ss n P → ss.length = 4 := by rintro ss n P ⟨F, G, a, b, rfl, _⟩; rfl

def ds_with_rows (cs : Cs) : DSp := fun ss n P XP => ∃ ks rs rows, ss = [.d (tabD cs.Table ks rs), .d (.tup rows)] ∧ kindsB (.tup ks) = true ∧ (∀ r ∈ rows, rowB ks r = true) ∧ 1 ≤ rows.length ∧ rows.length ≤ 12 ∧ (∀ j : Nat, firstU ks.length rows = some j → XP cs.AllUnread ["matter"] [.int (j : Int)] n) ∧ (firstU ks.length rows = none → P (tabD cs.Table ks rows) n)
theorem len_with_rows (cs : Cs) : ∀ ss n P XP, ds_with_rows cs ss n P XP → ss.length = 2 := by rintro ss n P XP ⟨ks, rs, rows, rfl, _⟩; rfl

def ds_law_no_row (cs : Cs) : DSp0 := fun ss n P => ss = [.d (.exc cs.BadRow [] [])] ∧ P (.bl true) n
theorem len_law_no_row (cs : Cs) : ∀ ss n P, ds_law_no_row cs ss n P → ss.length = 1 := by rintro ss n P ⟨rfl, _⟩; rfl

def ds_law_no_valley (cs : Cs) : DSp0 := fun ss n P => ss = [.d (.exc cs.BadValley [] [])] ∧ P (.bl true) n
theorem len_law_no_valley (cs : Cs) : ∀ ss n P, ds_law_no_valley cs ss n P → ss.length = 1 := by rintro ss n P ⟨rfl, _⟩; rfl

def ds_law_no_matter (cs : Cs) : DSp0 := fun ss n P => ss = [.d (.exc cs.BadMatter [] [])] ∧ P (.bl true) n
theorem len_law_no_matter (cs : Cs) : ∀ ss n P, ds_law_no_matter cs ss n P → ss.length = 1 := by rintro ss n P ⟨rfl, _⟩; rfl

def ds_law_no_custom (cs : Cs) : DSp0 := fun ss n P => ss = [.d (.exc cs.BadCustom [] [])] ∧ P (.bl true) n
theorem len_law_no_custom (cs : Cs) : ∀ ss n P, ds_law_no_custom cs ss n P → ss.length = 1 := by rintro ss n P ⟨rfl, _⟩; rfl

def ds_law_no_kind (cs : Cs) : DSp0 := fun ss n P => ss = [.d (.exc cs.BadKind [] [])] ∧ P (.bl true) n
theorem len_law_no_kind (cs : Cs) : ∀ ss n P, ds_law_no_kind cs ss n P → ss.length = 1 := by rintro ss n P ⟨rfl, _⟩; rfl

def ds_law_no_column (cs : Cs) : DSp0 := fun ss n P => ss = [.d (.exc cs.BadColumn [] [])] ∧ P (.bl true) n
theorem len_law_no_column (cs : Cs) : ∀ ss n P, ds_law_no_column cs ss n P → ss.length = 1 := by rintro ss n P ⟨rfl, _⟩; rfl

def ds_law_no_room (cs : Cs) : DSp0 := fun ss n P => ∃ d, ss = [.d (.exc cs.TooMany ["most"] [d])] ∧ P (.bl true) n
theorem len_law_no_room (cs : Cs) : ∀ ss n P, ds_law_no_room cs ss n P → ss.length = 1 := by rintro ss n P ⟨d, rfl, _⟩; rfl

def ds_law_bad_number : DSp0 := fun ss n P => ∃ k : Int, ss = [.st, .d (.int k)] ∧ n < LIM ∧ ∀ d n', n' ≤ n + 1 → nx d = true → betw 0 (k - 1) d = false → P d n'
theorem len_law_bad_number : ∀ ss n P, ds_law_bad_number ss n P → ss.length = 2 := by rintro ss n P ⟨k, rfl, _⟩; rfl

def ds_with_cell : DSp0 := fun ss n P => ∃ (xs : List D) (i : Nat) (d : D), ss = [.d (.tup xs), .d (.int (i : Int)), .d d] ∧ i < xs.length ∧ xs.length ≤ 100 ∧ P (.tup (xs.set i d)) n
theorem len_with_cell : ∀ ss n P, ds_with_cell ss n P → ss.length = 3 := by rintro ss n P ⟨xs, i, d, rfl, _⟩; rfl

def ds_check_valley (cs : Cs) : DSp := fun ss n P XP => ∃ ks rs v, ss = [.d (tabD cs.Table ks rs), .d v] ∧ nx v = true ∧ (betw 0 ((rs.length : Int) - 1) v = true → P .non n) ∧ (betw 0 ((rs.length : Int) - 1) v = false → XP cs.BadValley [] [] n)
theorem len_check_valley (cs : Cs) : ∀ ss n P XP, ds_check_valley cs ss n P XP → ss.length = 2 := by rintro ss n P XP ⟨ks, rs, v, rfl, _⟩; rfl

def ds_check_matter (cs : Cs) : DSp := fun ss n P XP => ∃ ks rs v, ss = [.d (tabD cs.Table ks rs), .d v] ∧ nx v = true ∧ (betw 0 ((ks.length : Int) - 1) v = true → P .non n) ∧ (betw 0 ((ks.length : Int) - 1) v = false → XP cs.BadMatter [] [] n)
theorem len_check_matter (cs : Cs) : ∀ ss n P XP, ds_check_matter cs ss n P XP → ss.length = 2 := by rintro ss n P XP ⟨ks, rs, v, rfl, _⟩; rfl

def ds_with_row (cs : Cs) : DSp := fun ss n P XP => ∃ t d, ss = [.d t, .d d] ∧ nx d = true ∧ ((∃ ks rs, t = tabD cs.Table ks rs ∧ kindsB (.tup ks) = true ∧ rowsB ks (.tup rs) = true ∧ (rowB ks d = false → XP cs.BadRow [] [] n) ∧ (rowB ks d = true → (rs.length = 12 → XP cs.TooMany ["most"] [.int 12] n) ∧ (rs.length ≠ 12 → P (tabD cs.Table ks (rs ++ [d])) n))) ∨ (nx t = true ∧ (∀ C ns ds, t ≠ .ins C ns ds) ∧ XP cs.BadTable [] [] n))
theorem len_with_row (cs : Cs) : ∀ ss n P XP, ds_with_row cs ss n P XP → ss.length = 2 := by rintro ss n P XP ⟨t, d, rfl, _⟩; rfl

def ds_is_column : DSp0 := fun ss n P => ∃ (m : Nat) (k : Int) (d : D), ss = [.d (.int (m : Int)), .d (.int k), .d d] ∧ nx d = true ∧ m ≤ 100 ∧ P (.bl (colB m (.int k) d)) n
theorem len_is_column : ∀ ss n P, ds_is_column ss n P → ss.length = 3 := by rintro ss n P ⟨m, k, d, rfl, _⟩; rfl

def ds_law_is_column : DSp0 := fun ss n P => ∃ (m : Nat) (k : Int) (d : D), ss = [.d (.int k), .d (.int (m : Int)), .d d] ∧ nx d = true ∧ 1 ≤ m ∧ m ≤ 12 ∧ 1 ≤ k ∧ k ≤ 6 ∧ P (.bl (colB m (.int k) d)) n
theorem len_law_is_column : ∀ ss n P, ds_law_is_column ss n P → ss.length = 3 := by rintro ss n P ⟨m, k, d, rfl, _⟩; rfl

def ds_with_matter (cs : Cs) : DSp := fun ss n P XP => ∃ t k d, ss = [.d t, .d k, .d d] ∧ nx k = true ∧ nx d = true ∧ ((∃ ks rs, t = tabD cs.Table ks rs ∧ kindsB (.tup ks) = true ∧ rowsB ks (.tup rs) = true ∧ (betw 1 6 k = false → XP cs.BadKind [] [] n) ∧ (betw 1 6 k = true → (colB rs.length k d = false → XP cs.BadColumn [] [] n) ∧ ∀ cs', d = .tup cs' → colB rs.length k d = true → (ks.length = 8 → XP cs.TooMany ["most"] [.int 8] n) ∧ (ks.length ≠ 8 → P (tabD cs.Table (ks ++ [k]) (addCol rs cs')) n))) ∨ (nx t = true ∧ (∀ C ns ds, t ≠ .ins C ns ds) ∧ XP cs.BadTable [] [] n))
theorem len_with_matter (cs : Cs) : ∀ ss n P XP, ds_with_matter cs ss n P XP → ss.length = 3 := by rintro ss n P XP ⟨t, k, d, rfl, _⟩; rfl

def ds_read (cs : Cs) : DSp := fun ss n P XP => ∃ t v m c, ss = [.d t, .d v, .d m, .d c] ∧ nx v = true ∧ nx m = true ∧ nx c = true ∧ ((∃ ks rs, t = tabD cs.Table ks rs ∧ kindsB (.tup ks) = true ∧ rowsB ks (.tup rs) = true ∧ (betw 0 ((rs.length : Int) - 1) v = false → XP cs.BadValley [] [] n) ∧ (betw 0 ((rs.length : Int) - 1) v = true → (betw 0 ((ks.length : Int) - 1) m = false → XP cs.BadMatter [] [] n) ∧ ∀ (i j : Nat) (k : Int), v = .int (i : Int) → m = .int (j : Int) → i < rs.length → ks[j]? = some (.int k) → (cellB (.int k) c = false → XP cs.BadCustom [] [] n) ∧ (cellB (.int k) c = true → (∀ u : Nat, firstU ks.length (putC rs i j c) = some u → XP cs.AllUnread ["matter"] [.int (u : Int)] n) ∧ (firstU ks.length (putC rs i j c) = none → P (tabD cs.Table ks (putC rs i j c)) n)))) ∨ (nx t = true ∧ (∀ C ns ds, t ≠ .ins C ns ds) ∧ XP cs.BadTable [] [] n))
theorem len_read (cs : Cs) : ∀ ss n P XP, ds_read cs ss n P XP → ss.length = 4 := by rintro ss n P XP ⟨t, v, m, c, rfl, _⟩; rfl

def ds_law_with_row : DSp0 := fun ss n P => ∃ ks rs d, ss = [.d (dicT ks rs), .d d] ∧ rs.length ≤ 100 ∧ P (dicT ks (rs ++ [d])) n
theorem len_law_with_row : ∀ ss n P, ds_law_with_row ss n P → ss.length = 2 := by rintro ss n P ⟨ks, rs, d, rfl, _⟩; rfl

def ds_law_with_matter : DSp0 := fun ss n P => ∃ ks rs k cs', ss = [.d (dicT ks rs), .d k, .d (.tup cs')] ∧ kindsB (.tup ks) = true ∧ rowsB ks (.tup rs) = true ∧ cs'.length = rs.length ∧ P (dicT (ks ++ [k]) (addCol rs cs')) n
theorem len_law_with_matter : ∀ ss n P, ds_law_with_matter ss n P → ss.length = 3 := by rintro ss n P ⟨ks, rs, k, cs', rfl, _⟩; rfl

def ds_law_with_cell : DSp0 := fun ss n P => ∃ (ks rs : List D) (i j : Nat) (c : D), ss = [.d (dicT ks rs), .d (.int (i : Int)), .d (.int (j : Int)), .d c] ∧ kindsB (.tup ks) = true ∧ rowsB ks (.tup rs) = true ∧ i < rs.length ∧ j < ks.length ∧ P (dicT ks (putC rs i j c)) n
theorem len_law_with_cell : ∀ ss n P, ds_law_with_cell ss n P → ss.length = 4 := by rintro ss n P ⟨ks, rs, i, j, c, rfl, _⟩; rfl

def ds_law_lonely : DSp0 := fun ss n P => ∃ ks rs, ss = [.st, .d (dicT ks rs)] ∧ kindsB (.tup ks) = true ∧ rowsB ks (.tup rs) = true ∧ n + 3 < LIM ∧ ∀ (rs' : List D) (i j : Nat) n', n' ≤ n + 3 → rowsB ks (.tup rs') = true → i < rs'.length → j < ks.length → P (.tup [dicT ks rs', .int (i : Int), .int (j : Int)]) n'
theorem len_law_lonely : ∀ ss n P, ds_law_lonely ss n P → ss.length = 2 := by rintro ss n P ⟨ks, rs, rfl, _⟩; rfl

def ds_law_filled : DSp0 := fun ss n P => ∃ ks rs, ss = [.st, .d (dicT ks rs)] ∧ kindsB (.tup ks) = true ∧ rowsB ks (.tup rs) = true ∧ n + 1 < LIM ∧ ∀ (ks' rs' : List D) n', n' ≤ n + 1 → kindsB (.tup ks') = true → rowsB ks' (.tup rs') = true → P (dicT ks' rs') n'
theorem len_law_filled : ∀ ss n P, ds_law_filled ss n P → ss.length = 2 := by rintro ss n P ⟨ks, rs, rfl, _⟩; rfl

def ds_law_row_right (cs : Cs) : DSp0 := fun ss n P => ∃ ks rs, ss = [.st, .d (dicT ks rs)] ∧ kindsB (.tup ks) = true ∧ rowsB ks (.tup rs) = true ∧ n + 50 < LIM ∧ ∀ n', n' ≤ n + 50 → P (.bl true) n'
theorem len_law_row_right (cs : Cs) : ∀ ss n P, ds_law_row_right cs ss n P → ss.length = 2 := by rintro ss n P ⟨ks, rs, rfl, _⟩; rfl

def ds_law_matter_right (cs : Cs) : DSp0 := fun ss n P => ∃ ks rs, ss = [.st, .d (dicT ks rs)] ∧ kindsB (.tup ks) = true ∧ rowsB ks (.tup rs) = true ∧ n + 100 < LIM ∧ ∀ n', n' ≤ n + 100 → P (.bl true) n'
theorem len_law_matter_right (cs : Cs) : ∀ ss n P, ds_law_matter_right cs ss n P → ss.length = 2 := by rintro ss n P ⟨ks, rs, rfl, _⟩; rfl

def ds_law_read_right (cs : Cs) : DSp0 := fun ss n P => ∃ (ks rs : List D) (i j : Nat) (k c : D), ss = [.st, .d (dicT ks rs), .d (.int (i : Int)), .d (.int (j : Int)), .d c] ∧ kindsB (.tup ks) = true ∧ rowsB ks (.tup rs) = true ∧ i < rs.length ∧ ks[j]? = some k ∧ cellB k c = true ∧ n + 500 < LIM ∧ ∀ n', n' ≤ n + 500 → P (.bl true) n'
theorem len_law_read_right (cs : Cs) : ∀ ss n P, ds_law_read_right cs ss n P → ss.length = 5 := by rintro ss n P ⟨ks, rs, i, j, k, c, rfl, _⟩; rfl



end Lw

namespace Lw
open L2 PySem DL
local macro_rules | `(tactic| walk_at "dl") => `(tactic| simp only [xsSeq, xsNext, xsSet, xsRet, xsRetN, xsIf, xsDrop, xsPar, xsNever, xsFor, xLZip, xVar, xC, xaNil, xaCons, xaSt, xOp, xUn, xCB, xB, xtAnd, xtOr, xtNot, xAndV, xOrV, xNotV, xIf, xTup, xLst, xChain, xDGet, xSl, xoNone, xoSome, xCall0, xCallX, xIsT, xIs, xFld, xDisp, xPairs, xDNew, xLc, xnLc, xtYes, xgName, xgTwo, xiList, xiTup, xiRange1, xiRange2, xiZip, xsSetO, xIxO, xLenO, xTupO, xsPutO, xsAppO, xsMe, xMake, xsAsgG, xjOwn, xMakeS, xLam, xStLeft, xStTurn, xStCells, xsStLeft, xsStTurn, xsLoop, xsRaise, startS, slotD_zero, slotD_succ, slotO_zero, slotO_succ, List.length_cons, List.length_nil, List.replicate, List.cons_append, List.nil_append, List.set, wipeS, addD, subD, intD, cmpD, mulD, isD, isnD, ixD, slD, lenD, tupD, lstD, int1D, absD, maxD, minD, negD, one1, two2, noOl, true_and, List.map_cons, List.map_nil, eqD, neD, eqP_int, eqP_bl, eqP_str, id, isTy, beq_self_eq_true, Bool.not_true, Bool.not_false, allD, svD, CPow, CMul, xStCells, Option.some.injEq, exists_eq_left', isSt, List.getElem?_cons_zero, List.getElem?_cons_succ, Nat.reduceAdd, Nat.reduceSub, Nat.sub_self, List.replicate_succ, List.replicate_zero, List.append_nil, Nat.zero_add, keyD, Nat.reduceLeDiff, Nat.zero_le, exists_and_left, vd_k, vd_r, xsWhile, xsPar3, xsParM, xmD, xmN, xnNil, xnLst, xnList, xnListO, xsFrz, xView, xtView, xsAppPop, xsAppO, xiEnum, xgThree, xsSetD, xsPutD, xsRetE, slotE_zero, slotE_succ, noOd, isOd, xsRaise1, xXat, fldD, xaLam, xCallV, xCallE, xCallKw, gp, gpI, dsX, ds0, xRevT, neNilD, sortD, mulD1, xListRng, xLenSet, eqNilTD, Bool.and_self, Bool.and_true, Bool.true_and, List.set_cons_zero, List.set_cons_succ])
section
variable {P : Program} {w : PySem.World} {K : PySem.W.Frag} {mg : Str → Option Value} {base : Heap} {TT : Tb} {cs : Cs} {tk0 : Tk}
abbrev s_is_number : Stmt := topS 14
theorem sc_is_number : FnScope ["thing"] ["thing"] (defScope s_is_number) := ⟨rfl, rfl, rfl, by decide +kernel, rfl, by decide +kernel, by decide +kernel⟩
theorem ok_is_number (T : Txt K mg cs tk0) (D : DefAt K mg "is_number" s_is_number ["thing"]) : Has P w K mg base CX0 1 "is_number" ["thing"] (sp0 K TT ds_is_number) := by
  obtain ⟨f, fd, F, hm, hk, hb⟩ := D
  refine ⟨f, fd, F.okD sc_is_number (len_is_number) (fun S cdv A outer s H E hr => ?_), hm, hk, hb⟩
  refine ⟨_, _, (pss_one (ps_ret (pe_and (pe_callB call_isD (by rfl) T.n_isinstance (by decide +kernel) (pa_cons (pv 0) (pa_cons (pe_bltn rfl T.n_int (by decide +kernel) (v := .ty "int") rfl) pa_nil))) (pe_one (pe_not (pe_callB call_isD (by rfl) T.n_isinstance (by decide +kernel) (pa_cons (pv 0) (pa_cons (pe_bltn rfl T.n_bool (by decide +kernel) (v := .ty "bool") rfl) pa_nil)))))))),
    (rds_ret (rd_andV (rd_isT (by decide) (rd_var (i := 0))) (rd_notV (rd_isT (by decide) (rd_var (i := 0)))))), ?_⟩
  rintro ss n P ⟨d, rfl, hb, p⟩
  walk_at "dl"
  refine ⟨hb, ?_⟩
  cases d <;> first | exact p | exact ⟨hb, p⟩

abbrev s_is_between : Stmt := topS 15
theorem sc_is_between : FnScope ["thing", "low", "high"] ["thing", "low", "high"] (defScope s_is_between) := ⟨rfl, rfl, rfl, by decide +kernel, rfl, by decide +kernel, by decide +kernel⟩
theorem ok_is_between (T : Txt K mg cs tk0) (D : DefAt K mg "is_between" s_is_between ["thing", "low", "high"]) (c_is_number : Has P w K mg base CX0 1 "is_number" ["thing"] (sp0 K TT ds_is_number)) : Has P w K mg base CX0 2 "is_between" ["thing", "low", "high"] (sp0 K TT ds_is_between) := by
  obtain ⟨f, fd, F, hm, hk, hb⟩ := D
  obtain ⟨_, _, c_is_number_ok, c_is_number_m, c_is_number_k, c_is_number_b⟩ := c_is_number
  refine ⟨f, fd, F.okD sc_is_between (len_is_between) (fun S cdv A outer s H E hr => ?_), hm, hk, hb⟩
  refine ⟨_, _, (pss_one (ps_ret (pe_and (pe_call c_is_number_ok (hr.mono (by decide)) rfl c_is_number_m c_is_number_k c_is_number_b .nil pass0 (pa_cons (pv 0) pa_nil)) (pe_one (pe_chain op_le op_le (pv 1) (pv 0) (pv 2)))))),
    (rds_ret (rd_andV (rd_call0 (E := E0) (rda_cons (rd_var (i := 0)) rda_nil)) (rd_chain o2_cmp o2_cmp (rd_var (i := 1)) (rd_var (i := 0)) (rd_var (i := 2))))), ?_⟩
  rintro ss n P ⟨d, lo, hi, rfl, hb, p⟩
  walk_at "dl"
  refine ⟨d, rfl, hb, ?_⟩
  cases d with
  | int i =>
    simp only [isInt]
    by_cases h1 : lo ≤ i
    · simp only [h1, decide_true]
      simpa [betw, h1] using p
    · simp only [h1, decide_false]
      simpa [betw, h1] using p
  | _ => exact p

abbrev s_is_kind : Stmt := topS 21
theorem sc_is_kind : FnScope ["thing"] ["thing"] (defScope s_is_kind) := ⟨rfl, rfl, rfl, by decide +kernel, rfl, by decide +kernel, by decide +kernel⟩
theorem ok_is_kind (T : Txt K mg cs tk0) (D : DefAt K mg "is_kind" s_is_kind ["thing"]) (c_is_between : Has P w K mg base CX0 2 "is_between" ["thing", "low", "high"] (sp0 K TT ds_is_between)) : Has P w K mg base CX0 3 "is_kind" ["thing"] (sp0 K TT ds_is_kind) := by
  obtain ⟨f, fd, F, hm, hk, hb⟩ := D
  obtain ⟨_, _, c_is_between_ok, c_is_between_m, c_is_between_k, c_is_between_b⟩ := c_is_between
  refine ⟨f, fd, F.okD sc_is_kind (len_is_kind) (fun S cdv A outer s H E hr => ?_), hm, hk, hb⟩
  refine ⟨_, _, (pss_one (ps_ret (pe_call c_is_between_ok (hr.mono (by decide)) rfl c_is_between_m c_is_between_k c_is_between_b .nil pass0 (pa_cons (pv 0) (pa_cons pe_int (pa_cons (pe_glob (v := .int 6) rfl T.k_MOST_KIND.2 ⟨_, rfl⟩) pa_nil)))))),
    (rds_ret (rd_call0 (E := E0) (rda_cons (rd_var (i := 0)) (rda_cons rd_int (rda_cons rd_int rda_nil))))), ?_⟩
  rintro ss n P ⟨d, rfl, hb, p⟩
  walk_at "dl"
  exact ⟨d, 1, 6, rfl, hb, p⟩

abbrev s_are_kinds : Stmt := topS 22
theorem sc_are_kinds : FnScope ["thing", "kind"] ["thing"] (defScope s_are_kinds) := ⟨rfl, rfl, rfl, by decide +kernel, rfl, by decide +kernel, by decide +kernel⟩
theorem ok_are_kinds (T : Txt K mg cs tk0) (D : DefAt K mg "_are_kinds" s_are_kinds ["thing"]) (c_is_kind : Has P w K mg base CX0 3 "is_kind" ["thing"] (sp0 K TT ds_is_kind)) : Has P w K mg base CX0 4 "_are_kinds" ["thing"] (sp0 K TT ds_are_kinds) := by
  obtain ⟨f, fd, F, hm, hk, hb⟩ := D
  obtain ⟨_, _, c_is_kind_ok, c_is_kind_m, c_is_kind_k, c_is_kind_b⟩ := c_is_kind
  refine ⟨f, fd, F.okD sc_are_kinds (len_are_kinds) (fun S cdv A outer s H E hr => ?_), hm, hk, hb⟩
  refine ⟨_, _, (pss_cons (ps_if (PW.pt (pw_or (pt_not (pt_val (pe_callB call_isD (by rfl) T.n_isinstance (by decide +kernel) (pa_cons (pv 0) (pa_cons (pe_bltn rfl T.n_tuple (by decide +kernel) (v := .ty "tuple") rfl) pa_nil))))) (pw_or1 (pt_not (pt_chain op_le op_le pe_int (pe_callB call_lenU (by rfl) T.n_len (by decide +kernel) (pa_cons (pv 0) pa_nil)) (pe_glob (v := .int 8) rfl T.k_MOST_MATTERS.2 ⟨_, rfl⟩)))))) (pss_one (ps_ret pe_bl)) pss_nil)
      (pss_one (ps_ret (pe_callB (cr_all rfl) (by rfl) T.n_all (by decide +kernel) (pa_cons (pe_lc (own := [("kind", 1)]) (g := gName 1) rfl sc_are_kinds.nd (pi_tup (pv 0)) (blkOk_by (N := ["thing", "kind"]) (own := [("kind", 1)]) (sc := defScope s_are_kinds) (by decide +kernel)) (fun _ _ _ _ _ => (pg_name (i := 1) sc_are_kinds.nd rfl (by first | exact Or.inl rfl | exact Or.inr rfl))) (fun _ _ _ _ _ => pts_nil) (fun _ _ _ _ _ => (pe_call c_is_kind_ok (hr.mono (by decide)) rfl c_is_kind_m c_is_kind_k c_is_kind_b .nil pass0 (pa_cons (pv 1) pa_nil)))) pa_nil))))),
    (rds_seq (rds_if (rdt_or (rdt_not (rdt_B (rd_isT (by decide) (rd_var (i := 0))))) (rdt_not (rdt_test (rd_chain o2_cmp o2_cmp rd_int (rd_cb cal_len (rda_cons (rd_var (i := 0)) rda_nil)) rd_int)))) (rds_ret rd_bl) rds_next)
      (rds_ret (rd_cb cal_all (rda_cons (rd_lc (rdj_of (rdi_tup (rd_var (i := 0)))) (rdg_name (vs := [1]) (by decide)) rdt_yes (rd_call0 (E := E0) (rda_cons (rd_var (i := 1)) rda_nil))) rda_nil)))), ?_⟩
  rintro ss n P ⟨d, rfl, hb, p⟩
  walk_at "dl"
  refine ⟨bare_of hb, ?_⟩
  cases d with
  | tup ks =>
    simp only [isTy, beq_self_eq_true, Bool.not_true]
    simp only [kindsB] at p
    by_cases h1 : 1 ≤ ks.length
    · have h1' : (1 : Int) ≤ ks.length := by omega
      simp only [h1', decide_true]
      by_cases h2 : ks.length ≤ 8
      · have h2' : (ks.length : Int) ≤ 8 := by omega
        simp only [h2', decide_true, Bool.not_true]
        refine ⟨by omega, compM_map (f := fun x => .bl (betw 1 6 x)) (fun x hx n k q => ⟨x, rfl, bare_of (nxs_mem hb hx), q⟩) (allD_map ?_)⟩
        simpa [h1, h2] using p
      · have h2' : ¬ (ks.length : Int) ≤ 8 := by omega
        simp only [h2', decide_false, Bool.not_false]
        simpa [h2] using p
    · have h1' : ¬ (1 : Int) ≤ ks.length := by omega
      simp only [h1', decide_false]
      simpa [h1] using p
  | _ => exact p

abbrev s_is_cell : Stmt := topS 23
theorem sc_is_cell : FnScope ["kind", "thing"] ["kind", "thing"] (defScope s_is_cell) := ⟨rfl, rfl, rfl, by decide +kernel, rfl, by decide +kernel, by decide +kernel⟩
theorem ok_is_cell (T : Txt K mg cs tk0) (D : DefAt K mg "is_cell" s_is_cell ["kind", "thing"]) (c_is_between : Has P w K mg base CX0 2 "is_between" ["thing", "low", "high"] (sp0 K TT ds_is_between)) : Has P w K mg base CX0 3 "is_cell" ["kind", "thing"] (sp0 K TT ds_is_cell) := by
  obtain ⟨f, fd, F, hm, hk, hb⟩ := D
  obtain ⟨_, _, c_is_between_ok, c_is_between_m, c_is_between_k, c_is_between_b⟩ := c_is_between
  refine ⟨f, fd, F.okD sc_is_cell (len_is_cell) (fun S cdv A outer s H E hr => ?_), hm, hk, hb⟩
  refine ⟨_, _, (pss_one (ps_ret (pe_or (pe_cmpR op_isN (pv 1) pe_non (nomark _)) (pe_one (pe_call c_is_between_ok (hr.mono (by decide)) rfl c_is_between_m c_is_between_k c_is_between_b .nil pass0 (pa_cons (pv 1) (pa_cons pe_int (pa_cons (pe_op op_sub (pv 0) pe_int) pa_nil)))))))),
    (rds_ret (rd_orV (rd_op o2_isN (rd_var (i := 1)) rd_non) (rd_call0 (E := E0) (rda_cons (rd_var (i := 1)) (rda_cons rd_int (rda_cons (rd_op o2_sub (rd_var (i := 0)) rd_int) rda_nil)))))), ?_⟩
  rintro ss n P ⟨k, d, rfl, hb, p⟩
  walk_at "dl"
  cases d <;> exact (by first | exact p | exact ⟨_, _, _, rfl, hb, p⟩)

abbrev s_is_row_for : Stmt := topS 24
theorem sc_is_row_for : FnScope ["kinds", "thing", "kind", "cell"] ["kinds", "thing"] (defScope s_is_row_for) := ⟨rfl, rfl, rfl, by decide +kernel, rfl, by decide +kernel, by decide +kernel⟩
theorem ok_is_row_for (T : Txt K mg cs tk0) (D : DefAt K mg "_is_row_for" s_is_row_for ["kinds", "thing"]) (c_is_cell : Has P w K mg base CX0 3 "is_cell" ["kind", "thing"] (sp0 K TT ds_is_cell)) : Has P w K mg base CX0 4 "_is_row_for" ["kinds", "thing"] (sp0 K TT ds_is_row_for) := by
  obtain ⟨f, fd, F, hm, hk, hb⟩ := D
  obtain ⟨_, _, c_is_cell_ok, c_is_cell_m, c_is_cell_k, c_is_cell_b⟩ := c_is_cell
  refine ⟨f, fd, F.okD sc_is_row_for (len_is_row_for) (fun S cdv A outer s H E hr => ?_), hm, hk, hb⟩
  refine ⟨_, _, (pss_cons (ps_if (PW.pt (pw_or (pt_not (pt_val (pe_callB call_isD (by rfl) T.n_isinstance (by decide +kernel) (pa_cons (pv 1) (pa_cons (pe_bltn rfl T.n_tuple (by decide +kernel) (v := .ty "tuple") rfl) pa_nil))))) (pw_or1 (pt_cmpR (op_neU hr.units) (pe_callB call_lenU (by rfl) T.n_len (by decide +kernel) (pa_cons (pv 1) pa_nil)) (pe_callB call_lenU (by rfl) T.n_len (by decide +kernel) (pa_cons (pv 0) pa_nil)) (nomark _))))) (pss_one (ps_ret pe_bl)) pss_nil)
      (pss_one (ps_ret (pe_callB (cr_all rfl) (by rfl) T.n_all (by decide +kernel) (pa_cons (pe_lc (own := [("kind", 2), ("cell", 3)]) (g := gTup _ 2 (gCons (gName 2) (gCons (gName 3) gNil))) rfl sc_is_row_for.nd (RZ.pi_zipA (by rfl) T.n_zip (pa_cons (pv 0) (pa_cons (pv 1) pa_nil))) (blkOk_by (N := ["kinds", "thing", "kind", "cell"]) (own := [("kind", 2), ("cell", 3)]) (sc := defScope s_is_row_for) (by decide +kernel)) (fun _ _ _ _ _ => (pg_tup rfl (pgs_cons (pg_name (i := 2) sc_is_row_for.nd rfl (by first | exact Or.inl rfl | exact Or.inr rfl)) (pgs_cons (pg_name (i := 3) sc_is_row_for.nd rfl (by first | exact Or.inl rfl | exact Or.inr rfl)) pgs_nil)))) (fun _ _ _ _ _ => pts_nil) (fun _ _ _ _ _ => (pe_call c_is_cell_ok (hr.mono (by decide)) rfl c_is_cell_m c_is_cell_k c_is_cell_b .nil pass0 (pa_cons (pv 2) (pa_cons (pv 3) pa_nil))))) pa_nil))))),
    (rds_seq (rds_if (rdt_or (rdt_not (rdt_B (rd_isT (by decide) (rd_var (i := 1))))) (rdt_test (rd_op o2_ne (rd_cb cal_len (rda_cons (rd_var (i := 1)) rda_nil)) (rd_cb cal_len (rda_cons (rd_var (i := 0)) rda_nil))))) (rds_ret rd_bl) rds_next)
      (rds_ret (rd_cb cal_all (rda_cons (rd_lc (rdj_of (rdi_zip (rda_cons (rd_var (i := 0)) (rda_cons (rd_var (i := 1)) rda_nil)))) (rdg_two (vs := [2, 3]) (by decide) (by decide)) rdt_yes (rd_call0 (E := E0) (rda_cons (rd_var (i := 2)) (rda_cons (rd_var (i := 3)) rda_nil)))) rda_nil)))), ?_⟩
  rintro ss n P ⟨ks, d, rfl, hb, hl, hk, p⟩
  walk_at "dl"
  refine ⟨bare_of hb, ?_⟩
  cases d with
  | tup cs =>
    simp only [isTy, beq_self_eq_true, Bool.not_true]
    simp only [rowB] at p
    walk_at "dl"
    by_cases h1 : cs.length = ks.length
    · have h1' : (cs.length : Int) = ks.length := by omega
      rw [show decide ((cs.length : Int) = ks.length) = true from decide_eq_true h1', Bool.not_true]
      refine ⟨by simp [zipD]; omega, ?_⟩
      unfold zipD
      have e : (ks.zip cs).map (fun p => D.bl (cellB p.1 p.2)) = ((ks.zip cs).map fun p => D.tup [p.1, p.2]).map (fun d => match d with | .tup [a, b] => .bl (cellB a b) | _ => .non) := by simp
      refine compM_map (f := fun d => match d with | .tup [a, b] => .bl (cellB a b) | _ => .non) (fun x hx n k q => ?_) ?_
      · obtain ⟨⟨a, b⟩, hp, rfl⟩ := List.mem_map.mp hx
        have ha : betw 1 6 a = true := by
          rw [List.all_eq_true] at hk
          exact hk a (List.of_mem_zip hp).1
        have hb2 : bareD b := bare_of (nxs_mem hb (List.of_mem_zip hp).2)
        cases a with
        | int i => exact ⟨i, b, rfl, hb2, q⟩
        | _ => simp [betw] at ha
      · rw [← e]
        refine ⟨_, blsD_map, ?_⟩
        rw [all_map]
        simpa [h1] using p
    · have h1' : ¬ (cs.length : Int) = ks.length := by omega
      rw [show decide ((cs.length : Int) = ks.length) = false from decide_eq_false h1', Bool.not_false]
      simpa [h1] using p
  | _ => exact p

abbrev s_first_unread : Stmt := topS 26
theorem sc_first_unread : FnScope ["rows", "matter", "row"] ["rows"] (defScope s_first_unread) := ⟨rfl, rfl, rfl, by decide +kernel, rfl, by decide +kernel, by decide +kernel⟩
theorem ok_first_unread (T : Txt K mg cs tk0) (D : DefAt K mg "first_unread" s_first_unread ["rows"]) : Has P w K mg base CX0 1 "first_unread" ["rows"] (sp0 K TT ds_first_unread) := by
  obtain ⟨f, fd, F, hm, hk, hb⟩ := D
  refine ⟨f, fd, F.okD sc_first_unread (len_first_unread) (fun S cdv A outer s H E hr => ?_), hm, hk, hb⟩
  refine ⟨_, _, (pss_cons (ps_for PassesOwn.never rfl (pi_range1 (by rfl) T.n_range (pa_cons (pe_callB call_lenU (by rfl) T.n_len (by decide +kernel) (pa_cons (pe_ix ix_seq (pv 0) pe_int (fun _ _ => rfl)) pa_nil)) pa_nil)) (pg_name (i := 1) sc_first_unread.nd rfl (by first | exact Or.inl rfl | exact Or.inr rfl)) (pss_one (ps_if (pt_val (pe_callB (cr_all rfl) (by rfl) T.n_all (by decide +kernel) (pa_cons (pe_lc (own := [("row", 2)]) (g := gName 2) rfl sc_first_unread.nd (pi_tup (pv 0)) (blkOk_by (N := ["rows", "matter", "row"]) (own := [("row", 2)]) (sc := defScope s_first_unread) (by decide +kernel)) (fun _ _ _ _ _ => (pg_name (i := 2) sc_first_unread.nd rfl (by first | exact Or.inl rfl | exact Or.inr rfl))) (fun _ _ _ _ _ => pts_nil) (fun _ _ _ _ _ => (pe_cmpR op_isN (pe_ix ix_seq (pv 2) (pv 1) (fun _ _ => rfl)) pe_non (nomark _)))) pa_nil))) (pss_one (ps_ret (pv 1))) pss_nil)))
      (pss_one (ps_ret pe_non))),
    (rds_seq (rds_for (rdi_range1 (rda_cons (rd_cb cal_len (rda_cons (rd_op o2_ix (rd_var (i := 0)) rd_int) rda_nil)) rda_nil)) (rdg_name (vs := [1]) (by decide)) (rds_if (rdt_B (rd_cb cal_all (rda_cons (rd_lc (rdj_of (rdi_tup (rd_var (i := 0)))) (rdg_name (vs := [2]) (by decide)) rdt_yes (rd_op o2_isN (rd_op o2_ix (rd_var (i := 2)) (rd_var (i := 1))) rd_non)) rda_nil))) (rds_ret (rd_var (i := 1))) rds_next))
      (rds_ret rd_non)), ?_⟩
  rintro ss n P ⟨m, rs, rfl, h1, h2, h3, hr, p⟩
  walk_at "dl"
  have h0 : ∃ c0 : List D, atD rs 0 = some (.tup c0) ∧ c0.length = m := by
    cases rs with
    | nil => simp at h1
    | cons a b =>
      obtain ⟨c0, rfl, hc⟩ := hr a List.mem_cons_self
      exact ⟨c0, at_zero, hc⟩
  obtain ⟨c0, e0, hc0⟩ := h0
  refine ⟨_, e0, ?_⟩
  walk_at "dl"
  refine ⟨by omega, by omega, fun i ρ n' => n' = n ∧ (∃ s1 s2, ρ = [.d (.tup rs), s1, s2]) ∧ ∀ j < i, colU rs j = false, ⟨rfl, ⟨_, _, rfl⟩, fun j hj => by omega⟩, ?_, ?_⟩
  · rintro i x ρ n' hx ⟨rfl, ⟨s1, s2, rfl⟩, hI⟩
    have hi : i < m ∧ x = .int (i : Int) := by
      unfold rangeD at hx
      rw [List.getElem?_map] at hx
      rw [Int.toNat_natCast] at hx
      cases e : (List.range c0.length)[i]? with
      | none => rw [e] at hx; cases hx
      | some j =>
        rw [e] at hx
        have h2 := List.getElem?_eq_some_iff.mp e
        obtain ⟨h3, h4⟩ := h2
        simp at h3 h4
        subst h4
        cases hx
        exact ⟨by omega, by simp⟩
    obtain ⟨hi, rfl⟩ := hi
    walk_at "dl"
    refine ⟨by omega, compM_map (f := fun r => .bl (DL.isNon (atN r i))) (fun r hm n2 k q => ?_) (allD_map ?_)⟩
    · obtain ⟨cs, rfl, hc⟩ := hr r hm
      have e : cs[i]? = some cs[i] := List.getElem?_eq_getElem (by omega)
      refine ⟨_, at_nat e, ?_⟩
      have z : atN (.tup cs) i = cs[i] := by
        show cs.getD i .non = cs[i]
        rw [List.getD_eq_getElem?_getD, e]
        rfl
      rw [z] at q
      exact q
    · cases hc : colU rs i with
      | true =>
        rw [show (rs.all fun r => DL.isNon (atN r i)) = true from hc]
        rw [firstU_some hi hc hI] at p
        exact p
      | false =>
        rw [show (rs.all fun r => DL.isNon (atN r i)) = false from hc]
        refine ⟨rfl, ⟨_, _, rfl⟩, fun j hj => ?_⟩
        by_cases e : j = i
        · rw [e]; exact hc
        · exact hI j (by omega)
  · rintro ρ n' ⟨rfl, _, hI⟩
    rw [firstU_none (fun j hj => hI j (by simp [rangeD]; omega))] at p
    exact p

abbrev s_are_rows : Stmt := topS 25
theorem sc_are_rows : FnScope ["kinds", "thing", "row"] ["kinds", "thing"] (defScope s_are_rows) := ⟨rfl, rfl, rfl, by decide +kernel, rfl, by decide +kernel, by decide +kernel⟩
theorem ok_are_rows (T : Txt K mg cs tk0) (D : DefAt K mg "_are_rows" s_are_rows ["kinds", "thing"]) (c_is_row_for : Has P w K mg base CX0 4 "_is_row_for" ["kinds", "thing"] (sp0 K TT ds_is_row_for)) (c_first_unread : Has P w K mg base CX0 1 "first_unread" ["rows"] (sp0 K TT ds_first_unread)) : Has P w K mg base CX0 5 "_are_rows" ["kinds", "thing"] (sp0 K TT ds_are_rows) := by
  obtain ⟨f, fd, F, hm, hk, hb⟩ := D
  obtain ⟨_, _, c_is_row_for_ok, c_is_row_for_m, c_is_row_for_k, c_is_row_for_b⟩ := c_is_row_for
  obtain ⟨_, _, c_first_unread_ok, c_first_unread_m, c_first_unread_k, c_first_unread_b⟩ := c_first_unread
  refine ⟨f, fd, F.okD sc_are_rows (len_are_rows) (fun S cdv A outer s H E hr => ?_), hm, hk, hb⟩
  refine ⟨_, _, (pss_cons (ps_if (PW.pt (pw_or (pt_not (pt_val (pe_callB call_isD (by rfl) T.n_isinstance (by decide +kernel) (pa_cons (pv 1) (pa_cons (pe_bltn rfl T.n_tuple (by decide +kernel) (v := .ty "tuple") rfl) pa_nil))))) (pw_or1 (pt_not (pt_chain op_le op_le pe_int (pe_callB call_lenU (by rfl) T.n_len (by decide +kernel) (pa_cons (pv 1) pa_nil)) (pe_glob (v := .int 12) rfl T.k_MOST_VALLEYS.2 ⟨_, rfl⟩)))))) (pss_one (ps_ret pe_bl)) pss_nil)
      (pss_one (ps_ret (pe_and (pe_callB (cr_all rfl) (by rfl) T.n_all (by decide +kernel) (pa_cons (pe_lc (own := [("row", 2)]) (g := gName 2) rfl sc_are_rows.nd (pi_tup (pv 1)) (blkOk_by (N := ["kinds", "thing", "row"]) (own := [("row", 2)]) (sc := defScope s_are_rows) (by decide +kernel)) (fun _ _ _ _ _ => (pg_name (i := 2) sc_are_rows.nd rfl (by first | exact Or.inl rfl | exact Or.inr rfl))) (fun _ _ _ _ _ => pts_nil) (fun _ _ _ _ _ => (pe_call c_is_row_for_ok (hr.mono (by decide)) rfl c_is_row_for_m c_is_row_for_k c_is_row_for_b .nil pass0 (pa_cons (pv 0) (pa_cons (pv 2) pa_nil))))) pa_nil)) (pe_one (pe_cmpR op_isN (pe_call c_first_unread_ok (hr.mono (by decide)) rfl c_first_unread_m c_first_unread_k c_first_unread_b .nil pass0 (pa_cons (pv 1) pa_nil)) pe_non (nomark _))))))),
    (rds_seq (rds_if (rdt_or (rdt_not (rdt_B (rd_isT (by decide) (rd_var (i := 1))))) (rdt_not (rdt_test (rd_chain o2_cmp o2_cmp rd_int (rd_cb cal_len (rda_cons (rd_var (i := 1)) rda_nil)) rd_int)))) (rds_ret rd_bl) rds_next)
      (rds_ret (rd_andV (rd_cb cal_all (rda_cons (rd_lc (rdj_of (rdi_tup (rd_var (i := 1)))) (rdg_name (vs := [2]) (by decide)) rdt_yes (rd_call0 (E := E0) (rda_cons (rd_var (i := 0)) (rda_cons (rd_var (i := 2)) rda_nil)))) rda_nil)) (rd_op o2_isN (rd_call0 (E := E0) (rda_cons (rd_var (i := 1)) rda_nil)) rd_non)))), ?_⟩
  rintro ss n P ⟨ks, d, rfl, hb, hk, p⟩
  simp only [kindsB, Bool.and_eq_true, decide_eq_true_eq] at hk
  walk_at "dl"
  refine ⟨bare_of hb, ?_⟩
  cases d with
  | tup rs =>
    simp only [isTy, beq_self_eq_true, Bool.not_true]
    simp only [rowsB] at p
    by_cases h1 : 1 ≤ rs.length
    · have h1' : (1 : Int) ≤ rs.length := by omega
      simp only [h1', decide_true]
      by_cases h2 : rs.length ≤ 12
      · have h2' : (rs.length : Int) ≤ 12 := by omega
        simp only [h2', decide_true, Bool.not_true]
        refine ⟨by omega, compM_map (f := fun x => .bl (rowB ks x)) (fun x hx n k q => ⟨ks, x, rfl, nxs_mem hb hx, Nat.le_trans hk.1.2 (by decide), hk.2, q⟩) (allD_map ?_)⟩
        simp only [h1, h2, decide_true, Bool.true_and] at p
        cases hr : rs.all (rowB ks) with
        | false =>
          rw [hr] at p
          exact p
        | true =>
          rw [hr] at p
          simp only [Bool.true_and] at p
          refine ⟨ks.length, rs, rfl, by omega, by omega, by omega, fun r hm => ?_, ?_⟩
          · rw [List.all_eq_true] at hr
            obtain ⟨cs, e1, e2, _⟩ := rowB_inv (hr r hm)
            exact ⟨cs, e1, e2⟩
          · cases hf : firstU ks.length rs with
            | none => rw [hf] at p; exact p
            | some j => rw [hf] at p; exact p
      · have h2' : ¬ (rs.length : Int) ≤ 12 := by omega
        simp only [h2', decide_false, Bool.not_false]
        simpa [h2] using p
    · have h1' : ¬ (1 : Int) ≤ rs.length := by omega
      simp only [h1', decide_false]
      simpa [h1] using p
  | _ => exact p

abbrev s_law_is_whole : Stmt := topS 43
theorem sc_law_is_whole : FnScope ["item"] ["item"] (defScope s_law_is_whole) := ⟨rfl, rfl, rfl, by decide +kernel, rfl, by decide +kernel, by decide +kernel⟩
theorem ok_law_is_whole (T : Txt K mg cs tk0) (D : DefAt K mg "_law_is_whole" s_law_is_whole ["item"]) : Has P w K mg base CX0 1 "_law_is_whole" ["item"] (sp0 K TT ds_law_is_whole) := by
  obtain ⟨f, fd, F, hm, hk, hb⟩ := D
  refine ⟨f, fd, F.okD sc_law_is_whole (len_law_is_whole) (fun S cdv A outer s H E hr => ?_), hm, hk, hb⟩
  refine ⟨_, _, (pss_one (ps_ret (pe_and (pe_callB call_isD (by rfl) T.n_isinstance (by decide +kernel) (pa_cons (pv 0) (pa_cons (pe_bltn rfl T.n_int (by decide +kernel) (v := .ty "int") rfl) pa_nil))) (pe_one (pe_not (pe_callB call_isD (by rfl) T.n_isinstance (by decide +kernel) (pa_cons (pv 0) (pa_cons (pe_bltn rfl T.n_bool (by decide +kernel) (v := .ty "bool") rfl) pa_nil)))))))),
    (rds_ret (rd_andV (rd_isT (by decide) (rd_var (i := 0))) (rd_notV (rd_isT (by decide) (rd_var (i := 0)))))), ?_⟩
  rintro ss n P ⟨d, rfl, hb, p⟩
  walk_at "dl"
  refine ⟨hb, ?_⟩
  cases d <;> first | exact p | exact ⟨hb, p⟩

abbrev s_law_is_below : Stmt := topS 44
theorem sc_law_is_below : FnScope ["item", "size_here"] ["item", "size_here"] (defScope s_law_is_below) := ⟨rfl, rfl, rfl, by decide +kernel, rfl, by decide +kernel, by decide +kernel⟩
theorem ok_law_is_below (T : Txt K mg cs tk0) (D : DefAt K mg "_law_is_below" s_law_is_below ["item", "size_here"]) (c_law_is_whole : Has P w K mg base CX0 1 "_law_is_whole" ["item"] (sp0 K TT ds_law_is_whole)) : Has P w K mg base CX0 2 "_law_is_below" ["item", "size_here"] (sp0 K TT ds_law_is_below) := by
  obtain ⟨f, fd, F, hm, hk, hb⟩ := D
  obtain ⟨_, _, c_law_is_whole_ok, c_law_is_whole_m, c_law_is_whole_k, c_law_is_whole_b⟩ := c_law_is_whole
  refine ⟨f, fd, F.okD sc_law_is_below (len_law_is_below) (fun S cdv A outer s H E hr => ?_), hm, hk, hb⟩
  refine ⟨_, _, (pss_one (ps_ret (pe_and (pe_call c_law_is_whole_ok (hr.mono (by decide)) rfl c_law_is_whole_m c_law_is_whole_k c_law_is_whole_b .nil pass0 (pa_cons (pv 0) pa_nil)) (pe_one (pe_chain op_le op_lt pe_int (pv 0) (pv 1)))))),
    (rds_ret (rd_andV (rd_call0 (E := E0) (rda_cons (rd_var (i := 0)) rda_nil)) (rd_chain o2_cmp o2_cmp rd_int (rd_var (i := 0)) (rd_var (i := 1))))), ?_⟩
  rintro ss n P ⟨d, hi, rfl, hb, p⟩
  walk_at "dl"
  refine ⟨d, rfl, hb, ?_⟩
  cases d with
  | int i =>
    simp only [isInt]
    by_cases h1 : 0 ≤ i
    · simp only [h1, decide_true]
      have e : decide (i ≤ hi - 1) = decide (i < hi) := by simp; omega
      simpa [betw, h1, e] using p
    · simp only [h1, decide_false]
      simpa [betw, h1] using p
  | _ => exact p

abbrev s_law_less : Stmt := topS 45
theorem sc_law_less : FnScope ["row", "spot"] ["row", "spot"] (defScope s_law_less) := ⟨rfl, rfl, rfl, by decide +kernel, rfl, by decide +kernel, by decide +kernel⟩
theorem ok_law_less (T : Txt K mg cs tk0) (D : DefAt K mg "_law_less" s_law_less ["row", "spot"]) : Has P w K mg base CX0 1 "_law_less" ["row", "spot"] (sp0 K TT ds_law_less) := by
  obtain ⟨f, fd, F, hm, hk, hb⟩ := D
  refine ⟨f, fd, F.okD sc_law_less (len_law_less) (fun S cdv A outer s H E hr => ?_), hm, hk, hb⟩
  refine ⟨_, _, (pss_one (ps_ret (pe_op op_addU (pe_slice sl_U (pv 0) po_none (po_some (pv 1))) (pe_slice sl_U (pv 0) (po_some (pe_op op_addU (pv 1) pe_int)) po_none)))),
    (rds_ret (rd_op o2_add (rd_sl (rd_var (i := 0)) rdo_none (rdo_some (rd_var (i := 1)))) (rd_sl (rd_var (i := 0)) (rdo_some (rd_op o2_add (rd_var (i := 1)) rd_int)) rdo_none))), ?_⟩
  rintro ss n P ⟨xs, i, rfl, hi, hl, p⟩
  walk_at "dl"
  rw [cut_to, cut_from1]
  exact ⟨by simp; omega, p⟩

abbrev s_law_put : Stmt := topS 46
theorem sc_law_put : FnScope ["row", "spot", "item"] ["row", "spot", "item"] (defScope s_law_put) := ⟨rfl, rfl, rfl, by decide +kernel, rfl, by decide +kernel, by decide +kernel⟩
theorem ok_law_put (T : Txt K mg cs tk0) (D : DefAt K mg "_law_put" s_law_put ["row", "spot", "item"]) : Has P w K mg base CX0 1 "_law_put" ["row", "spot", "item"] (sp0 K TT ds_law_put) := by
  obtain ⟨f, fd, F, hm, hk, hb⟩ := D
  refine ⟨f, fd, F.okD sc_law_put (len_law_put) (fun S cdv A outer s H E hr => ?_), hm, hk, hb⟩
  refine ⟨_, _, (pss_one (ps_ret (pe_op op_addU (pe_op op_addU (pe_slice sl_U (pv 0) po_none (po_some (pv 1))) (pe_tup (pa_cons (pv 2) pa_nil))) (pe_slice sl_U (pv 0) (po_some (pe_op op_addU (pv 1) pe_int)) po_none)))),
    (rds_ret (rd_op o2_add (rd_op o2_add (rd_sl (rd_var (i := 0)) rdo_none (rdo_some (rd_var (i := 1)))) (rd_tup (rda_cons (rd_var (i := 2)) rda_nil))) (rd_sl (rd_var (i := 0)) (rdo_some (rd_op o2_add (rd_var (i := 1)) rd_int)) rdo_none))), ?_⟩
  rintro ss n P ⟨xs, i, d, rfl, hi, hl, p⟩
  walk_at "dl"
  rw [cut_to, cut_from1]
  exact ⟨by simp; omega, by simp; omega, p⟩

abbrev s_law_is_row : Stmt := topS 54
theorem sc_law_is_row : FnScope ["kinds_here", "thing", "pairs", "size_here", "item"] ["kinds_here", "thing"] (defScope s_law_is_row) := ⟨rfl, rfl, rfl, by decide +kernel, rfl, by decide +kernel, by decide +kernel⟩
theorem ok_law_is_row (T : Txt K mg cs tk0) (D : DefAt K mg "_law_is_row" s_law_is_row ["kinds_here", "thing"]) (c_law_is_below : Has P w K mg base CX0 2 "_law_is_below" ["item", "size_here"] (sp0 K TT ds_law_is_below)) : Has P w K mg base CX0 3 "_law_is_row" ["kinds_here", "thing"] (sp0 K TT ds_law_is_row) := by
  obtain ⟨f, fd, F, hm, hk, hb⟩ := D
  obtain ⟨_, _, c_law_is_below_ok, c_law_is_below_m, c_law_is_below_k, c_law_is_below_b⟩ := c_law_is_below
  refine ⟨f, fd, F.okD sc_law_is_row (len_law_is_row) (fun S cdv A outer s H E hr => ?_), hm, hk, hb⟩
  refine ⟨_, _, (pss_cons (ps_if (PW.pt (pw_or (pt_not (pt_val (pe_callB call_isD (by rfl) T.n_isinstance (by decide +kernel) (pa_cons (pv 1) (pa_cons (pe_bltn rfl T.n_tuple (by decide +kernel) (v := .ty "tuple") rfl) pa_nil))))) (pw_or1 (pt_cmpR (op_neU hr.units) (pe_callB call_lenU (by rfl) T.n_len (by decide +kernel) (pa_cons (pv 1) pa_nil)) (pe_callB call_lenU (by rfl) T.n_len (by decide +kernel) (pa_cons (pv 0) pa_nil)) (nomark _))))) (pss_one (ps_ret pe_bl)) pss_nil)
      (pss_cons (ps_set (i := 2) sc_law_is_row.nd rfl (by first | exact Or.inl rfl | exact Or.inr rfl) (RZ.pe_listZip (by rfl) T.n_list (by rfl) T.n_zip (pa_cons (pv 0) (pa_cons (pv 1) pa_nil))))
      (pss_one (ps_ret (pe_cmpR (op_eqU hr.units) (pe_lc (own := [("size_here", 3), ("item", 4)]) (g := gTup _ 2 (gCons (gName 3) (gCons (gName 4) gNil))) rfl sc_law_is_row.nd (pi_list (pv 2)) (blkOk_by (N := ["kinds_here", "thing", "pairs", "size_here", "item"]) (own := [("size_here", 3), ("item", 4)]) (sc := defScope s_law_is_row) (by decide +kernel)) (fun _ _ _ _ _ => (pg_tup rfl (pgs_cons (pg_name (i := 3) sc_law_is_row.nd rfl (by first | exact Or.inl rfl | exact Or.inr rfl)) (pgs_cons (pg_name (i := 4) sc_law_is_row.nd rfl (by first | exact Or.inl rfl | exact Or.inr rfl)) pgs_nil)))) (fun _ _ _ _ _ => (pts_one (PW.pt (pw_and (pt_cmpR op_notN (pv 4) pe_non (nomark _)) (pw_and1 (pt_not (pt_val (pe_call c_law_is_below_ok (hr.mono (by decide)) rfl c_law_is_below_m c_law_is_below_k c_law_is_below_b .nil pass0 (pa_cons (pv 4) (pa_cons (pv 3) pa_nil)))))))))) (fun _ _ _ _ _ => pe_int)) (pe_lst pa_nil) (nomark _)))))),
    (rds_seq (rds_if (rdt_or (rdt_not (rdt_B (rd_isT (by decide) (rd_var (i := 1))))) (rdt_test (rd_op o2_ne (rd_cb cal_len (rda_cons (rd_var (i := 1)) rda_nil)) (rd_cb cal_len (rda_cons (rd_var (i := 0)) rda_nil))))) (rds_ret rd_bl) rds_next)
      (rds_seq (rds_set (rd_lzip (rda_cons (rd_var (i := 0)) (rda_cons (rd_var (i := 1)) rda_nil))))
      (rds_ret (rd_op o2_eq (rd_lc (rdj_of (rdi_list (rd_var (i := 2)))) (rdg_two (vs := [3, 4]) (by decide) (by decide)) (rdt_and (rdt_test (rd_op o2_notN (rd_var (i := 4)) rd_non)) (rdt_not (rdt_B (rd_call0 (E := E0) (rda_cons (rd_var (i := 4)) (rda_cons (rd_var (i := 3)) rda_nil)))))) rd_int) (rd_lst rda_nil))))), ?_⟩
  rintro ss n P ⟨ks, d, rfl, hb, hl, hk, p⟩
  walk_at "dl"
  refine ⟨bare_of hb, ?_⟩
  cases d with
  | tup cs =>
    simp only [rowB] at p
    walk_at "dl"
    by_cases h1 : cs.length = ks.length
    · have h1' : (cs.length : Int) = ks.length := by omega
      rw [show decide ((cs.length : Int) = ks.length) = true from decide_eq_true h1', Bool.not_true]
      refine ⟨h1.symm, by simp [zipD]; omega, ?_⟩
      unfold zipD
      refine compM_filter (f := fun d => if (match d with | .tup [a, b] => !cellB a b | _ => true) then some (.int 1) else none) (fun x hx n k q => ?_) (eq_ones ?_)
      · obtain ⟨⟨a, b⟩, hp, rfl⟩ := List.mem_map.mp hx
        have ha : betw 1 6 a = true := by
          rw [List.all_eq_true] at hk
          exact hk a (List.of_mem_zip hp).1
        have hb2 : bareD b := bare_of (nxs_mem hb (List.of_mem_zip hp).2)
        cases a with
        | int i =>
          cases b with
          | non => simpa [DL.isNon, cellB] using q
          | int j =>
            simp only [DL.isNon, Bool.not_false]
            refine ⟨_, _, rfl, hb2, ?_⟩
            simp only [cellB] at q
            simp only [betw]
            cases hh : (decide (0 ≤ j) && decide (j ≤ i - 1)) <;> simp only [hh] at q ⊢ <;> simpa using q
          | _ =>
            simp only [DL.isNon, Bool.not_false]
            refine ⟨_, _, rfl, hb2, ?_⟩
            simpa [cellB, betw] using q
        | _ => simp [betw] at ha
      · have e : (((ks.zip cs).map fun p => D.tup [p.1, p.2]).all fun x => !(match x with | .tup [a, b] => !cellB a b | _ => true)) = (ks.zip cs).all fun p => cellB p.1 p.2 := by
          rw [List.all_map]
          simp [Function.comp_def]
        rw [e]
        simpa [h1] using p
    · have h1' : ¬ (cs.length : Int) = ks.length := by omega
      rw [show decide ((cs.length : Int) = ks.length) = false from decide_eq_false h1', Bool.not_false]
      simpa [h1] using p
  | _ => exact p

abbrev s_law_draw : Stmt := topS 40
theorem sc_law_draw : FnScope ["state", "size_here", "turn", "cell", "mixed", "found"] ["state", "size_here"] (defScope s_law_draw) := ⟨rfl, rfl, rfl, by decide +kernel, rfl, by decide +kernel, by decide +kernel⟩
theorem ok_law_draw (T : Txt K mg cs tk0) (D : DefAt K mg "_law_draw" s_law_draw ["state", "size_here"]) : Has P w K mg base CX0 1 "_law_draw" ["state", "size_here"] (sp0 K TT ds_law_draw) := by
  obtain ⟨f, fd, F, hm, hk, hb⟩ := D
  refine ⟨f, fd, F.okD sc_law_draw (len_law_draw) (fun S cdv A outer s H E hr => ?_), hm, hk, hb⟩
  refine ⟨_, _, (pss_cons (ps_while PassesOwn.never (PW.pt (pw_and (pt_cmpR (op_eqD hr.units) (pe_dget (hu_of hr) (pv 0) pe_str (fun _ _ => rfl)) pe_int (nomark _)) (pw_and1 (pt_cmpR (op_neD hr.units) (pe_dget (hu_of hr) (pv 0) pe_str (fun _ _ => rfl)) (pe_lst pa_nil) (nomark _))))) (pss_one (ps_dput (hu_of hr) (pv 0) pe_str (pe_bm PySem.F.plainAttrs_list PySem.F.slot_list_pop PySem.F.type_list_pop mt_popAt (pe_dget (hu_of hr) (pv 0) pe_str (fun _ _ => rfl)) (pa_cons pe_int pa_nil)) rfl)))
      (pss_cons (ps_if (pt_cmpR op_gt (pe_dget (hu_of hr) (pv 0) pe_str (fun _ _ => rfl)) pe_int (nomark _)) (pss_cons (ps_set (i := 5) sc_law_draw.nd rfl (by first | exact Or.inl rfl | exact Or.inr rfl) (pe_op op_modN (pe_callTy call_rInt1 (by rfl) T.n_int (by decide +kernel) (pa_cons (pe_dget (hu_of hr) (pv 0) pe_str (fun _ _ => rfl)) pa_nil)) (pv 1)))
      (pss_cons (ps_dput (hu_of hr) (pv 0) pe_str (pe_op op_fdivN (pe_dget (hu_of hr) (pv 0) pe_str (fun _ _ => rfl)) (pv 1)) rfl)
      (pss_one (ps_ret (pv 5))))) pss_nil)
      (pss_cons (ps_set (i := 2) sc_law_draw.nd rfl (by first | exact Or.inl rfl | exact Or.inr rfl) (pe_op op_addU (pe_dget (hu_of hr) (pv 0) pe_str (fun _ _ => rfl)) pe_int))
      (pss_cons (ps_dput (hu_of hr) (pv 0) pe_str (pv 2) rfl)
      (pss_cons (ps_set (i := 3) sc_law_draw.nd rfl (by first | exact Or.inl rfl | exact Or.inr rfl) (pe_ifExp (pt_cmpR (op_neU hr.units) (pe_dget (hu_of hr) (pv 0) pe_str (fun _ _ => rfl)) (pe_lst pa_nil) (nomark _)) (pe_ix ix_seq (pe_dget (hu_of hr) (pv 0) pe_str (fun _ _ => rfl)) (pe_op op_modN (pe_callTy call_rInt1 (by rfl) T.n_int (by decide +kernel) (pa_cons (pv 2) pa_nil)) (pe_callB call_lenU (by rfl) T.n_len (by decide +kernel) (pa_cons (pe_dget (hu_of hr) (pv 0) pe_str (fun _ _ => rfl)) pa_nil))) (fun _ _ => rfl)) pe_int))
      (pss_cons (ps_set (i := 4) sc_law_draw.nd rfl (by first | exact Or.inl rfl | exact Or.inr rfl) (pe_op op_modN (pe_callTy call_rInt1 (by rfl) T.n_int (by decide +kernel) (pa_cons (pe_op op_pow (pe_op op_addU (pe_op op_addU (pe_op op_modN (pe_callTy call_rInt1 (by rfl) T.n_int (by decide +kernel) (pa_cons (pv 3) pa_nil)) pe_int) (pe_op op_mulU pe_int (pv 2))) pe_int) pe_int) pa_nil)) pe_int))
      (pss_one (ps_ret (pe_op op_modN (pe_callTy call_rInt1 (by rfl) T.n_int (by decide +kernel) (pa_cons (pe_op op_fdivN (pe_op op_modN (pe_callTy call_rInt1 (by rfl) T.n_int (by decide +kernel) (pa_cons (pe_op op_pow (pe_op op_addU (pv 4) (pe_op op_mulU pe_int (pv 2))) pe_int) pa_nil)) pe_int) pe_int) pa_nil)) (pv 1)))))))))),
    (rds_seq (rds_loop (i := 0))
      (rds_seq (rds_if (rdt_test (rd_op o2_cmp (rd_stLeft (i := 0)) rd_int)) (rds_seq (rds_set (rd_op o2_int (rd_cb cal_int (rda_cons (rd_stLeft (i := 0)) rda_nil)) (rd_var (i := 1))))
      (rds_seq (rds_stLeft (i := 0) (rd_op o2_int (rd_stLeft (i := 0)) (rd_var (i := 1))))
      (rds_ret (rd_var (i := 5))))) rds_next)
      (rds_seq (rds_set (rd_op o2_add (rd_stTurn (i := 0)) rd_int))
      (rds_seq (rds_stTurn (i := 0) (rd_var (i := 2)))
      (rds_seq (rds_set (rd_if (rdt_test (rd_op o2_ne (rd_stCells (i := 0)) (rd_lst rda_nil))) (rd_op o2_ix (rd_stCells (i := 0)) (rd_op o2_int (rd_cb cal_int (rda_cons (rd_var (i := 2)) rda_nil)) (rd_cb cal_len (rda_cons (rd_stCells (i := 0)) rda_nil)))) rd_int))
      (rds_seq (rds_set (rd_op o2_int (rd_cb cal_int (rda_cons (rd_op o2_int (rd_op o2_add (rd_op o2_add (rd_op o2_int (rd_cb cal_int (rda_cons (rd_var (i := 3)) rda_nil)) rd_int) (rd_op o2_mul rd_int (rd_var (i := 2)))) rd_int) rd_int) rda_nil)) rd_int))
      (rds_ret (rd_op o2_int (rd_cb cal_int (rda_cons (rd_op o2_int (rd_op o2_int (rd_cb cal_int (rda_cons (rd_op o2_int (rd_op o2_add (rd_var (i := 4)) (rd_op o2_mul rd_int (rd_var (i := 2)))) rd_int) rda_nil)) rd_int) rd_int) rda_nil)) (rd_var (i := 1)))))))))), ?_⟩
  rintro ss n P ⟨z, rfl, h0, h1, hn, p⟩
  have hn' : n < 1099511627776 := hn
  walk_at "dl"
  intro m hm
  by_cases hm0 : 0 < m
  · rw [show decide (0 < m) = true from decide_eq_true hm0]
    exact fun m hm => ⟨by omega, fun m1 hm1 => ⟨⟨by omega, by omega⟩, Int.fdiv_nonneg hm1 (by omega), p _ _ (Int.fmod_nonneg_of_pos _ h0) (Int.fmod_lt_of_pos _ h0) (by omega)⟩⟩
  · rw [show decide (0 < m) = false from decide_eq_false hm0]
    refine fun t ht => ⟨by omega, fun hc hl => eq_ints ?_⟩
    cases he : S.cs.isEmpty with
    | false =>
      refine fun _ _ _ _ => ⟨?_, ?_⟩
      · cases hcs : S.cs with
        | nil => rw [hcs] at he; cases he
        | cons a b => simp <;> omega
      · have hpos : (0 : Int) < S.cs.length := by
          cases hcs : S.cs with
          | nil => rw [hcs] at he; cases he
          | cons a b => simp <;> omega
        rw [List.length_map]
        obtain ⟨j, hj⟩ := Int.eq_ofNat_of_zero_le (Int.fmod_nonneg_of_pos ((t : Int) + 1) hpos)
        have hj2 := Int.fmod_lt_of_pos ((t : Int) + 1) hpos
        rw [hj] at hj2 ⊢
        have hj3 : j < S.cs.length := by omega
        have e : (S.cs.map D.int)[j]? = some (.int S.cs[j]) := by rw [List.getElem?_map, List.getElem?_eq_getElem hj3]; rfl
        refine ⟨_, at_nat e, ?_⟩
        clear hj hj2 e
        generalize S.cs[j] = c
        walk_at "dl"
        refine ⟨by decide, .inl ⟨by decide, by decide⟩, ⟨by decide, by decide, ?_⟩, by decide, .inl ⟨by decide, by decide⟩, ⟨by decide, by decide, ?_⟩, by decide, ⟨by decide, by decide⟩, by omega, p _ _ (Int.fmod_nonneg_of_pos _ h0) (Int.fmod_lt_of_pos _ h0) (by omega)⟩
        · have a1 := Int.fmod_nonneg_of_pos c (show (0 : Int) < 2147483563 by decide)
          have a2 := Int.fmod_lt_of_pos c (show (0 : Int) < 2147483563 by decide)
          omega
        · generalize (Int.fmod c 2147483563 + 40692 * ((t : Int) + 1) + 24681) ^ Int.toNat 3 = y
          have a1 := Int.fmod_nonneg_of_pos y (show (0 : Int) < 2147483629 by decide)
          have a2 := Int.fmod_lt_of_pos y (show (0 : Int) < 2147483629 by decide)
          omega
    | true =>
      walk_at "dl"
      refine ⟨by decide, .inl ⟨by decide, by decide⟩, ⟨by decide, by decide, ?_⟩, by decide, .inl ⟨by decide, by decide⟩, ⟨by decide, by decide, ?_⟩, by decide, ⟨by decide, by decide⟩, by omega, p _ _ (Int.fmod_nonneg_of_pos _ h0) (Int.fmod_lt_of_pos _ h0) (by omega)⟩
      · have a1 := Int.fmod_nonneg_of_pos 0 (show (0 : Int) < 2147483563 by decide)
        have a2 := Int.fmod_lt_of_pos 0 (show (0 : Int) < 2147483563 by decide)
        omega
      · generalize (Int.fmod 0 2147483563 + 40692 * ((t : Int) + 1) + 24681) ^ Int.toNat 3 = y
        have a1 := Int.fmod_nonneg_of_pos y (show (0 : Int) < 2147483629 by decide)
        have a2 := Int.fmod_lt_of_pos y (show (0 : Int) < 2147483629 by decide)
        omega

abbrev s_law_pick : Stmt := topS 41
theorem sc_law_pick : FnScope ["state", "several"] ["state", "several"] (defScope s_law_pick) := ⟨rfl, rfl, rfl, by decide +kernel, rfl, by decide +kernel, by decide +kernel⟩
theorem ok_law_pick (T : Txt K mg cs tk0) (D : DefAt K mg "_law_pick" s_law_pick ["state", "several"]) (c_law_draw : Has P w K mg base CX0 1 "_law_draw" ["state", "size_here"] (sp0 K TT ds_law_draw)) : Has P w K mg base CX0 2 "_law_pick" ["state", "several"] (sp0 K TT ds_law_pick) := by
  obtain ⟨f, fd, F, hm, hk, hb⟩ := D
  obtain ⟨_, _, c_law_draw_ok, c_law_draw_m, c_law_draw_k, c_law_draw_b⟩ := c_law_draw
  refine ⟨f, fd, F.okD sc_law_pick (len_law_pick) (fun S cdv A outer s H E hr => ?_), hm, hk, hb⟩
  refine ⟨_, _, (pss_one (ps_ret (pe_ix ix_seq (pv 1) (pe_call c_law_draw_ok (hr.mono (by decide)) rfl c_law_draw_m c_law_draw_k c_law_draw_b .nil pass0 (pa_cons (pv 0) (pa_cons (pe_callB call_lenU (by rfl) T.n_len (by decide +kernel) (pa_cons (pv 1) pa_nil)) pa_nil))) (fun _ _ => rfl)))),
    (rds_ret (rd_op o2_ix (rd_var (i := 1)) (rd_call0 (E := E0) (rda_st (i := 0) (rda_cons (rd_cb cal_len (rda_cons (rd_var (i := 1)) rda_nil)) rda_nil))))), ?_⟩
  rintro ss n P ⟨xs, hs, h0, h1, hn, p⟩
  have go : ∀ (r : Int) (n' : Nat), 0 ≤ r → r < xs.length → n' ≤ n + 1 → ∃ d, atD xs r = some d ∧ P d n' := fun r n' h2 h3 h4 => by
    obtain ⟨j, rfl⟩ := Int.eq_ofNat_of_zero_le h2
    have hj : j < xs.length := by omega
    exact ⟨xs[j], at_nat (List.getElem?_eq_getElem hj), p _ (List.getElem_mem hj) _ h4⟩
  rcases hs with rfl | rfl
  · walk_at "dl"
    exact ⟨_, rfl, by omega, by omega, hn, go⟩
  · walk_at "dl"
    exact ⟨_, rfl, by omega, by omega, hn, go⟩

abbrev s_law_bad_table : Stmt := topS 49
theorem sc_law_bad_table : FnScope ["state"] ["state"] (defScope s_law_bad_table) := ⟨rfl, rfl, rfl, by decide +kernel, rfl, by decide +kernel, by decide +kernel⟩
theorem ok_law_bad_table (T : Txt K mg cs tk0) (D : DefAt K mg "_law_bad_table" s_law_bad_table ["state"]) (c_law_pick : Has P w K mg base CX0 2 "_law_pick" ["state", "several"] (sp0 K TT ds_law_pick)) : Has P w K mg base CX0 3 "_law_bad_table" ["state"] (sp0 K TT ds_law_bad_table) := by
  obtain ⟨f, fd, F, hm, hk, hb⟩ := D
  obtain ⟨_, _, c_law_pick_ok, c_law_pick_m, c_law_pick_k, c_law_pick_b⟩ := c_law_pick
  refine ⟨f, fd, F.okD sc_law_bad_table (len_law_bad_table) (fun S cdv A outer s H E hr => ?_), hm, hk, hb⟩
  refine ⟨_, _, (pss_one (ps_ret (pe_call c_law_pick_ok (hr.mono (by decide)) rfl c_law_pick_m c_law_pick_k c_law_pick_b .nil pass0 (pa_cons (pv 0) (pa_cons (pe_lst (pa_cons pe_non (pa_cons pe_int (pa_cons (pe_tup pa_nil) (pa_cons pe_dnewK (pa_cons pe_str (pa_cons (pe_tup (pa_cons (pe_tup (pa_cons pe_int pa_nil)) (pa_cons (pe_tup (pa_cons (pe_tup (pa_cons pe_int pa_nil)) pa_nil)) pa_nil))) pa_nil))))))) pa_nil))))),
    (rds_ret (rd_call0 (E := E0) (rda_st (i := 0) (rda_cons (rd_lst (rda_cons rd_non (rda_cons rd_int (rda_cons (rd_tup rda_nil) (rda_cons rd_dnew (rda_cons rd_str (rda_cons (rd_tup (rda_cons (rd_tup (rda_cons rd_int rda_nil)) (rda_cons (rd_tup (rda_cons (rd_tup (rda_cons rd_int rda_nil)) rda_nil)) rda_nil))) rda_nil))))))) rda_nil)))), ?_⟩
  rintro ss n P ⟨rfl, hn, p⟩
  walk_at "dl"
  refine ⟨_, .inr rfl, by simp, by simp, hn, fun x hx n' h => ?_⟩
  have z : nx x = true ∧ ∀ C ns ds, x ≠ .ins C ns ds := by
    revert x
    simp [nx, nxs]
  exact p _ _ h z.1 z.2

abbrev s_law_cell : Stmt := topS 51
theorem sc_law_cell : FnScope ["state", "size_here"] ["state", "size_here"] (defScope s_law_cell) := ⟨rfl, rfl, rfl, by decide +kernel, rfl, by decide +kernel, by decide +kernel⟩
theorem ok_law_cell (T : Txt K mg cs tk0) (D : DefAt K mg "_law_cell" s_law_cell ["state", "size_here"]) (c_law_draw : Has P w K mg base CX0 1 "_law_draw" ["state", "size_here"] (sp0 K TT ds_law_draw)) : Has P w K mg base CX0 2 "_law_cell" ["state", "size_here"] (sp0 K TT ds_law_cell) := by
  obtain ⟨f, fd, F, hm, hk, hb⟩ := D
  obtain ⟨_, _, c_law_draw_ok, c_law_draw_m, c_law_draw_k, c_law_draw_b⟩ := c_law_draw
  refine ⟨f, fd, F.okD sc_law_cell (len_law_cell) (fun S cdv A outer s H E hr => ?_), hm, hk, hb⟩
  refine ⟨_, _, (pss_one (ps_ret (pe_ifExp (pt_cmpR (op_eqU hr.units) (pe_call c_law_draw_ok (hr.mono (by decide)) rfl c_law_draw_m c_law_draw_k c_law_draw_b .nil pass0 (pa_cons (pv 0) (pa_cons pe_int pa_nil))) pe_int (nomark _)) pe_non (pe_call c_law_draw_ok (hr.mono (by decide)) rfl c_law_draw_m c_law_draw_k c_law_draw_b .nil pass0 (pa_cons (pv 0) (pa_cons (pv 1) pa_nil)))))),
    (rds_ret (rd_if (rdt_test (rd_op o2_eq (rd_call0 (E := E0) (rda_st (i := 0) (rda_cons rd_int rda_nil))) rd_int)) rd_non (rd_call0 (E := E0) (rda_st (i := 0) (rda_cons (rd_var (i := 1)) rda_nil))))), ?_⟩
  rintro ss n P ⟨k, rfl, h0, h1, hn, p⟩
  walk_at "dl"
  have hn' : n + 2 < 1099511627776 := hn
  refine ⟨5, rfl, by decide, by decide, by show n < 1099511627776; omega, fun r n1 r0 r1 h2 => ?_⟩
  walk_at "dl"
  by_cases hr0 : r = 0
  · rw [show decide (r = 0) = true from decide_eq_true hr0]
    exact p _ _ (by omega) rfl
  · rw [show decide (r = 0) = false from decide_eq_false hr0]
    refine ⟨k, rfl, by omega, by omega, by show n1 < 1099511627776; omega, fun r n2 r0 r1 h3 => p _ _ (by omega) ?_⟩
    simp [cellB]
    omega

abbrev s_law_first_unread : Stmt := topS 55
theorem sc_law_first_unread : FnScope ["many", "rows_here", "spot", "row"] ["many", "rows_here"] (defScope s_law_first_unread) := ⟨rfl, rfl, rfl, by decide +kernel, rfl, by decide +kernel, by decide +kernel⟩
theorem ok_law_first_unread (T : Txt K mg cs tk0) (D : DefAt K mg "_law_first_unread" s_law_first_unread ["many", "rows_here"]) : Has P w K mg base CX0 1 "_law_first_unread" ["many", "rows_here"] (sp0 K TT ds_law_first_unread) := by
  obtain ⟨f, fd, F, hm, hk, hb⟩ := D
  refine ⟨f, fd, F.okD sc_law_first_unread (len_law_first_unread) (fun S cdv A outer s H E hr => ?_), hm, hk, hb⟩
  refine ⟨_, _, (pss_one (ps_ret (pe_lc (own := [("spot", 2)]) (g := gName 2) rfl sc_law_first_unread.nd (pi_range1 (by rfl) T.n_range (pa_cons (pv 0) pa_nil)) (blkOk_by (N := ["many", "rows_here", "spot", "row"]) (own := [("spot", 2)]) (sc := defScope s_law_first_unread) (by decide +kernel)) (fun _ _ _ _ _ => (pg_name (i := 2) sc_law_first_unread.nd rfl (by first | exact Or.inl rfl | exact Or.inr rfl))) (fun _ _ _ _ _ => (pts_one (pt_cmpR (op_eqU hr.units) (pe_lc (own := [("row", 3)]) (g := gName 3) rfl sc_law_first_unread.nd (pi_tup (pv 1)) (blkOk_by (N := ["many", "rows_here", "spot", "row"]) (own := [("row", 3)]) (by rfl)) (fun _ _ _ _ _ => (pg_name (i := 3) sc_law_first_unread.nd rfl (by first | exact Or.inl rfl | exact Or.inr rfl))) (fun _ _ _ _ _ => (pts_one (pt_cmpR op_notN (pe_ix ix_seq (pv 3) (pv 2) (fun _ _ => rfl)) pe_non (nomark _)))) (fun _ _ _ _ _ => pe_int)) (pe_lst pa_nil) (nomark _)))) (fun _ _ _ _ _ => (pv 2))))),
    (rds_ret (rd_lc (rdj_of (rdi_range1 (rda_cons (rd_var (i := 0)) rda_nil))) (rdg_name (vs := [2]) (by decide)) (rdt_test (rd_op o2_eq (rd_lc (rdj_of (rdi_tup (rd_var (i := 1)))) (rdg_name (vs := [3]) (by decide)) (rdt_test (rd_op o2_notN (rd_op o2_ix (rd_var (i := 3)) (rd_var (i := 2))) rd_non)) rd_int) (rd_lst rda_nil))) (rd_var (i := 2)))), ?_⟩
  rintro ss n P ⟨m, rs, rfl, h1, h2, hr, p⟩
  walk_at "dl"
  have mem : ∀ x ∈ rangeD 0 (m : Int).toNat, ∃ i : Nat, i < m ∧ x = .int (i : Int) := fun x hx => by
    unfold rangeD at hx
    rw [Int.toNat_natCast] at hx
    obtain ⟨i, hi, rfl⟩ := List.mem_map.mp hx
    exact ⟨i, List.mem_range.mp hi, by simp⟩
  refine ⟨by omega, by omega, by simp [rangeD]; omega, compM_filter (f := fun x => match x with | .int i => if colU rs i.toNat then some (.int i) else none | _ => none) (fun x hx n2 k q => ?_) ?_⟩
  · obtain ⟨i, hi, rfl⟩ := mem x hx
    refine ⟨by omega, compM_filter (f := fun r => if !DL.isNon (atN r i) then some (.int 1) else none) (fun r hm n3 k2 q2 => ?_) (eq_ones ?_)⟩
    · obtain ⟨cs, rfl, hc⟩ := hr r hm
      have e : cs[i]? = some cs[i] := List.getElem?_eq_getElem (by omega)
      refine ⟨_, at_nat e, ?_⟩
      have z : atN (.tup cs) i = cs[i] := by
        show cs.getD i .non = cs[i]
        rw [List.getD_eq_getElem?_getD, e]
        rfl
      rw [z] at q2
      cases hb2 : DL.isNon cs[i] <;> simp only [hb2] at q2 ⊢ <;> simpa using q2
    · have e : (rs.all fun r => !!DL.isNon (atN r i)) = colU rs i := by simp [colU]
      rw [e]
      simp only [Int.toNat_natCast] at q
      cases hb2 : colU rs i <;> simp only [hb2] at q ⊢ <;> simpa using q
  · have e : (rangeD 0 (m : Int).toNat).filterMap (fun x => match x with | .int i => if colU rs i.toNat then some (.int i) else none | _ => none) = ((List.range m).filter (colU rs)).map fun (j : Nat) => D.int (j : Int) := by
      unfold rangeD
      rw [Int.toNat_natCast, List.filterMap_map, ← List.filterMap_eq_map, List.filterMap_filter]
      refine congrFun (congrArg _ (funext fun i => ?_)) _
      simp
    rw [e]
    exact p

abbrev s_law_spoilt_row : Stmt := topS 56
theorem sc_law_spoilt_row : FnScope ["state", "kinds_here", "row", "size_here", "spot", "way"] ["state", "kinds_here", "row"] (defScope s_law_spoilt_row) := ⟨rfl, rfl, rfl, by decide +kernel, rfl, by decide +kernel, by decide +kernel⟩
theorem ok_law_spoilt_row (T : Txt K mg cs tk0) (D : DefAt K mg "_law_spoilt_row" s_law_spoilt_row ["state", "kinds_here", "row"]) (c_law_draw : Has P w K mg base CX0 1 "_law_draw" ["state", "size_here"] (sp0 K TT ds_law_draw)) (c_law_pick : Has P w K mg base CX0 2 "_law_pick" ["state", "several"] (sp0 K TT ds_law_pick)) (c_law_less : Has P w K mg base CX0 1 "_law_less" ["row", "spot"] (sp0 K TT ds_law_less)) (c_law_put : Has P w K mg base CX0 1 "_law_put" ["row", "spot", "item"] (sp0 K TT ds_law_put)) : Has P w K mg base CX0 3 "_law_spoilt_row" ["state", "kinds_here", "row"] (sp0 K TT ds_law_spoilt_row) := by
  obtain ⟨f, fd, F, hm, hk, hb⟩ := D
  obtain ⟨_, _, c_law_draw_ok, c_law_draw_m, c_law_draw_k, c_law_draw_b⟩ := c_law_draw
  obtain ⟨_, _, c_law_pick_ok, c_law_pick_m, c_law_pick_k, c_law_pick_b⟩ := c_law_pick
  obtain ⟨_, _, c_law_less_ok, c_law_less_m, c_law_less_k, c_law_less_b⟩ := c_law_less
  obtain ⟨_, _, c_law_put_ok, c_law_put_m, c_law_put_k, c_law_put_b⟩ := c_law_put
  refine ⟨f, fd, F.okD sc_law_spoilt_row (len_law_spoilt_row) (fun S cdv A outer s H E hr => ?_), hm, hk, hb⟩
  refine ⟨_, _, (pss_cons (ps_par (i := 4) (j := 5) rfl sc_law_spoilt_row.nd rfl rfl (by decide) rfl rfl (pa_cons (pe_call c_law_draw_ok (hr.mono (by decide)) rfl c_law_draw_m c_law_draw_k c_law_draw_b .nil pass0 (pa_cons (pv 0) (pa_cons (pe_callB call_lenU (by rfl) T.n_len (by decide +kernel) (pa_cons (pv 2) pa_nil)) pa_nil))) (pa_cons (pe_call c_law_draw_ok (hr.mono (by decide)) rfl c_law_draw_m c_law_draw_k c_law_draw_b .nil pass0 (pa_cons (pv 0) (pa_cons pe_int pa_nil))) pa_nil)) (by rfl))
      (pss_cons (ps_if (pt_cmpR (op_eqU hr.units) (pv 5) pe_int (nomark _)) (pss_one (ps_ret (pe_call c_law_pick_ok (hr.mono (by decide)) rfl c_law_pick_m c_law_pick_k c_law_pick_b .nil pass0 (pa_cons (pv 0) (pa_cons (pe_lst (pa_cons (pe_callTy call_rListU (by rfl) T.n_list (by decide +kernel) (pa_cons (pv 2) pa_nil)) (pa_cons pe_non (pa_cons pe_int (pa_cons pe_str (pa_cons pe_dnewK (pa_cons (pe_tup pa_nil) (pa_cons (pe_ix ix_seq (pv 2) (pv 4) (fun _ _ => rfl)) pa_nil)))))))) pa_nil))))) pss_nil)
      (pss_cons (ps_if (pt_cmpR (op_eqU hr.units) (pv 5) pe_int (nomark _)) (pss_one (ps_ret (pe_call c_law_less_ok (hr.mono (by decide)) rfl c_law_less_m c_law_less_k c_law_less_b .nil pass0 (pa_cons (pv 2) (pa_cons (pv 4) pa_nil))))) pss_nil)
      (pss_cons (ps_if (pt_cmpR (op_eqU hr.units) (pv 5) pe_int (nomark _)) (pss_one (ps_ret (pe_op op_addU (pe_op op_addU (pe_slice sl_U (pv 2) po_none (po_some (pv 4))) (pe_tup (pa_cons (pe_ix ix_seq (pv 2) (pv 4) (fun _ _ => rfl)) pa_nil))) (pe_slice sl_U (pv 2) (po_some (pv 4)) po_none)))) pss_nil)
      (pss_cons (ps_set (i := 3) sc_law_spoilt_row.nd rfl (by first | exact Or.inl rfl | exact Or.inr rfl) (pe_ix ix_seq (pv 1) (pv 4) (fun _ _ => rfl)))
      (pss_one (ps_ret (pe_call c_law_put_ok (hr.mono (by decide)) rfl c_law_put_m c_law_put_k c_law_put_b .nil pass0 (pa_cons (pv 2) (pa_cons (pv 4) (pa_cons (pe_call c_law_pick_ok (hr.mono (by decide)) rfl c_law_pick_m c_law_pick_k c_law_pick_b .nil pass0 (pa_cons (pv 0) (pa_cons (pe_lst (pa_cons (pv 3) (pa_cons (pe_un un_neg pe_int) (pa_cons pe_bl (pa_cons pe_bl (pa_cons pe_str (pa_cons (pe_tup (pa_cons pe_int pa_nil)) (pa_cons (pe_op op_sub (pv 3) pe_int) (pa_cons pe_non (pa_cons pe_int (pa_cons pe_int pa_nil))))))))))) pa_nil))) pa_nil))))))))))),
    (rds_seq (rds_par (i := 4) (j := 5) (rda_cons (rd_call0 (E := E0) (rda_st (i := 0) (rda_cons (rd_cb cal_len (rda_cons (rd_var (i := 2)) rda_nil)) rda_nil))) (rda_cons (rd_call0 (E := E0) (rda_st (i := 0) (rda_cons rd_int rda_nil))) rda_nil)))
      (rds_seq (rds_if (rdt_test (rd_op o2_eq (rd_var (i := 5)) rd_int)) (rds_ret (rd_call0 (E := E0) (rda_st (i := 0) (rda_cons (rd_lst (rda_cons (rd_cb cal_list (rda_cons (rd_var (i := 2)) rda_nil)) (rda_cons rd_non (rda_cons rd_int (rda_cons rd_str (rda_cons rd_dnew (rda_cons (rd_tup rda_nil) (rda_cons (rd_op o2_ix (rd_var (i := 2)) (rd_var (i := 4))) rda_nil)))))))) rda_nil)))) rds_next)
      (rds_seq (rds_if (rdt_test (rd_op o2_eq (rd_var (i := 5)) rd_int)) (rds_ret (rd_call0 (E := E0) (rda_cons (rd_var (i := 2)) (rda_cons (rd_var (i := 4)) rda_nil)))) rds_next)
      (rds_seq (rds_if (rdt_test (rd_op o2_eq (rd_var (i := 5)) rd_int)) (rds_ret (rd_op o2_add (rd_op o2_add (rd_sl (rd_var (i := 2)) rdo_none (rdo_some (rd_var (i := 4)))) (rd_tup (rda_cons (rd_op o2_ix (rd_var (i := 2)) (rd_var (i := 4))) rda_nil))) (rd_sl (rd_var (i := 2)) (rdo_some (rd_var (i := 4))) rdo_none))) rds_next)
      (rds_seq (rds_set (rd_op o2_ix (rd_var (i := 1)) (rd_var (i := 4))))
      (rds_ret (rd_call0 (E := E0) (rda_cons (rd_var (i := 2)) (rda_cons (rd_var (i := 4)) (rda_cons (rd_call0 (E := E0) (rda_st (i := 0) (rda_cons (rd_lst (rda_cons (rd_var (i := 3)) (rda_cons (rd_un o1_neg rd_int) (rda_cons rd_bl (rda_cons rd_bl (rda_cons rd_str (rda_cons (rd_tup (rda_cons rd_int rda_nil)) (rda_cons (rd_op o2_sub (rd_var (i := 3)) rd_int) (rda_cons rd_non (rda_cons rd_int (rda_cons rd_int rda_nil))))))))))) rda_nil))) rda_nil)))))))))), ?_⟩
  rintro ss n P ⟨ks, cs, rfl, hb, hl, h1, h2, hk, hn, p⟩
  walk_at "dl"
  have hn' : n + 5 < 1099511627776 := hn
  refine ⟨_, rfl, by omega, by omega, lim (by omega), fun s n1 s0 s1 h1' => ?_⟩
  obtain ⟨i, rfl⟩ := Int.eq_ofNat_of_zero_le s0
  have hi : i < cs.length := by omega
  have ec : cs[i]? = some cs[i] := List.getElem?_eq_getElem hi
  have hk' : i < ks.length := by omega
  have ek : ks[i]? = some ks[i] := List.getElem?_eq_getElem hk'
  have nc : nx cs[i] = true := nxs_mem hb (List.getElem_mem hi)
  refine ⟨_, rfl, by omega, by omega, lim (by omega), fun v n2 w0 w1 h2' => ?_⟩
  simp only [eqP_int, id]
  by_cases hv0 : v = 0
  · rw [show decide (v = 0) = true from decide_eq_true hv0]
    refine ⟨_, at_nat ec, _, .inr rfl, by simp, by simp, lim (by omega), fun x hx n' h => p _ _ (by omega) ?_⟩
    revert x
    simp [nx, nxs, hb, nc]
  rw [show decide (v = 0) = false from decide_eq_false hv0]
  by_cases hv1 : v = 1
  · rw [show decide (v = 1) = true from decide_eq_true hv1]
    exact ⟨cs, i, rfl, hi, by omega, p _ _ (by omega) (nx_less hb)⟩
  rw [show decide (v = 1) = false from decide_eq_false hv1]
  by_cases hv2 : v = 2
  · rw [show decide (v = 2) = true from decide_eq_true hv2]
    refine ⟨_, at_nat ec, ?_⟩
    rw [cut_to, cut_from]
    refine ⟨by simp; omega, by simp; omega, p _ _ (by omega) ?_⟩
    show nxs _ = true
    exact nxs_app (nxs_app (nxs_take hb) (by simp [nxs, nc])) (nxs_drop hb)
  rw [show decide (v = 2) = false from decide_eq_false hv2]
  refine ⟨_, at_nat ek, ?_⟩
  have hki : betw 1 6 ks[i] = true := by
    rw [List.all_eq_true] at hk
    exact hk _ (List.getElem_mem hk')
  cases hks : ks[i] with
  | int k =>
    refine ⟨_, .inr rfl, by simp, by simp, lim (by omega), fun x hx n' h => ⟨cs, i, x, rfl, hi, by omega, p _ _ (by omega) (nx_put hb ?_)⟩⟩
    revert x
    simp [nx, nxs]
  | _ => rw [hks] at hki; simp [betw] at hki

abbrev s_Table_init : Stmt := inClass (topS 20) 0
theorem sc_Table_init : FnScope ["self", "kinds", "rows"] ["self", "kinds", "rows"] (defScope s_Table_init) := ⟨rfl, rfl, rfl, by decide +kernel, rfl, by decide +kernel, by decide +kernel⟩
theorem ok_Table_init (T : Txt K mg cs tk0) (D : Init2 K "Table.__init__" cs.Table s_Table_init "kinds" "rows") (c_are_kinds : Has P w K mg base CX0 4 "_are_kinds" ["thing"] (sp0 K TT ds_are_kinds)) (c_are_rows : Has P w K mg base CX0 5 "_are_rows" ["kinds", "thing"] (sp0 K TT ds_are_rows)) : HasI P w K mg base 6 cs.Table "kinds" "rows" (spI K TT cs.Table (ds_Table_init cs)) := by
  obtain ⟨f, fd, F, hm, hk, hb⟩ := D
  obtain ⟨_, _, c_are_kinds_ok, c_are_kinds_m, c_are_kinds_k, c_are_kinds_b⟩ := c_are_kinds
  obtain ⟨_, _, c_are_rows_ok, c_are_rows_m, c_are_rows_k, c_are_rows_b⟩ := c_are_rows
  refine ⟨f, fd, okI F sc_Table_init (len_Table_init cs) (fun S cdv A outer s H E hr => ?_), hm, hk, hb⟩
  have tk := takes_of (X := cxOf (L2.CX P w) P w K mg base ["self", "kinds", "rows"] "Table.__init__" (defScope s_Table_init) f cdv A outer s H E) (E := E) rfl rfl rfl rfl
  refine ⟨_, _, (pss_cons (ps_if (pt_not (pt_val (pe_call c_are_kinds_ok (hr.mono (by decide)) rfl c_are_kinds_m c_are_kinds_k c_are_kinds_b .nil pass0 (pa_cons (pv 1) pa_nil)))) (pss_one (ps_raise (W := fun cls d _ H => E cls d H) rfl tk (pmk_own PySem.F.excBase_ValueError T.x_BadKinds T.g_BadKinds T.e_BadKinds (raises_own T.b_BadKinds T.t_BadKinds) rfl))) pss_nil)
      (pss_cons (ps_if (pt_not (pt_val (pe_call c_are_rows_ok (hr.mono (by decide)) rfl c_are_rows_m c_are_rows_k c_are_rows_b .nil pass0 (pa_cons (pv 1) (pa_cons (pv 2) pa_nil))))) (pss_one (ps_raise (W := fun cls d _ H => E cls d H) rfl tk (pmk_own PySem.F.excBase_ValueError T.x_BadRows T.g_BadRows T.e_BadRows (raises_own T.b_BadRows T.t_BadRows) rfl))) pss_nil)
      (pss_cons (ps_fld (pv 0) (pv 1) rfl)
      (pss_one (ps_fld (pv 0) (pv 2) rfl))))),
    (rds_seq (rds_if (rdt_not (rdt_B (rd_call0 (E := E0) (rda_cons (rd_var (i := 1)) rda_nil)))) rds_raise rds_next)
      (rds_seq (rds_if (rdt_not (rdt_B (rd_call0 (E := E0) (rda_cons (rd_var (i := 1)) (rda_cons (rd_var (i := 2)) rda_nil))))) rds_raise rds_next)
      (rds_seq (rds_fldM (rd_var (i := 1)))
      (rds_fldM (rd_var (i := 2)))))), ?_⟩
  rintro y ss n P XP ⟨k, r, rfl, hk, hr', h1, h2, h3⟩
  walk_at "dl"
  refine ⟨k, rfl, hk, ?_⟩
  cases e : kindsB k with
  | false => exact h1 e
  | true =>
    cases k with
    | tup ks =>
      refine ⟨ks, r, rfl, hr', e, ?_⟩
      cases e2 : rowsB ks r with
      | false => exact h2 e e2
      | true => exact ⟨rfl, T.ic_Table.cl, T.na_Table_kinds, by decide, by decide, rfl, T.ic_Table.cl, T.na_Table_rows, by decide, by decide, rfl, rfl, h3 e e2⟩
    | _ => simp [kindsB] at e

abbrev s_check_table : Stmt := topS 27
theorem sc_check_table : FnScope ["table"] ["table"] (defScope s_check_table) := ⟨rfl, rfl, rfl, by decide +kernel, rfl, by decide +kernel, by decide +kernel⟩
theorem ok_check_table (T : Txt K mg cs tk0) (D : DefAt K mg "check_table" s_check_table ["table"]) : Has P w K mg base (L2.CX P w) 1 "check_table" ["table"] (spX K TT (ds_check_table cs)) := by
  obtain ⟨f, fd, F, hm, hk, hb⟩ := D
  refine ⟨f, fd, F.okXD sc_check_table (len_check_table cs) (fun S cdv A outer s H E hr => ?_), hm, hk, hb⟩
  have tk := takes_of (X := cxOf (L2.CX P w) P w K mg base ["table"] "check_table" (defScope s_check_table) f cdv A outer s H E) (E := E) rfl rfl rfl rfl
  refine ⟨_, _, (pss_one (ps_if (pt_not (pt_val (pe_callB call_isD (by rfl) T.n_isinstance (by decide +kernel) (pa_cons (pv 0) (pa_cons (pe_glob (v := .ref cs.Table) rfl T.g_Table rfl) pa_nil))))) (pss_one (ps_raise (W := fun cls d _ H => E cls d H) rfl tk (pmk_own PySem.F.excBase_ValueError T.x_BadTable T.g_BadTable T.e_BadTable (raises_own T.b_BadTable T.t_BadTable) rfl))) pss_nil)),
    (rds_if (rdt_not (rdt_B (rd_is (.own _) (rd_var (i := 0))))) rds_raise rds_next), ?_⟩
  rintro ss n P XP ⟨d, rfl, h⟩
  walk_at "dl"
  rcases h with ⟨ks, rs, rfl, p⟩ | ⟨h1, h2, p⟩
  · exact ⟨trivial, true, T.i_Table, p⟩
  · exact ⟨bare_of h1, false, kit_no T.no_Table h1 h2, p⟩

abbrev s_is_row : Stmt := topS 30
theorem sc_is_row : FnScope ["table", "thing"] ["table", "thing"] (defScope s_is_row) := ⟨rfl, rfl, rfl, by decide +kernel, rfl, by decide +kernel, by decide +kernel⟩
theorem ok_is_row (T : Txt K mg cs tk0) (D : DefAt K mg "is_row" s_is_row ["table", "thing"]) (c_check_table : Has P w K mg base (L2.CX P w) 1 "check_table" ["table"] (spX K TT (ds_check_table cs))) (c_is_row_for : Has P w K mg base CX0 4 "_is_row_for" ["kinds", "thing"] (sp0 K TT ds_is_row_for)) : Has P w K mg base (L2.CX P w) 5 "is_row" ["table", "thing"] (spX K TT (ds_is_row cs)) := by
  obtain ⟨f, fd, F, hm, hk, hb⟩ := D
  obtain ⟨_, _, c_check_table_ok, c_check_table_m, c_check_table_k, c_check_table_b⟩ := c_check_table
  obtain ⟨_, _, c_is_row_for_ok, c_is_row_for_m, c_is_row_for_k, c_is_row_for_b⟩ := c_is_row_for
  refine ⟨f, fd, F.okXD sc_is_row (len_is_row cs) (fun S cdv A outer s H E hr => ?_), hm, hk, hb⟩
  have tk := takes_of (X := cxOf (L2.CX P w) P w K mg base ["table", "thing"] "is_row" (defScope s_is_row) f cdv A outer s H E) (E := E) rfl rfl rfl rfl
  refine ⟨_, _, (pss_cons (ps_expr (pe_call c_check_table_ok (hr.mono (by decide)) rfl c_check_table_m c_check_table_k c_check_table_b .nil (passes_call tk (fun _ _ _ _ h => h)) (pa_cons (pv 0) pa_nil)))
      (pss_one (ps_ret (pe_call c_is_row_for_ok (hr.mono (by decide)) rfl c_is_row_for_m c_is_row_for_k c_is_row_for_b .nil pass0 (pa_cons (pe_fld (pv 0) rfl) (pa_cons (pv 1) pa_nil)))))),
    (rds_seq (rds_drop (rd_callX (rda_cons (rd_var (i := 0)) rda_nil)))
      (rds_ret (rd_call0 (E := E0) (rda_cons (rd_fld (rd_var (i := 0))) (rda_cons (rd_var (i := 1)) rda_nil))))), ?_⟩
  rintro ss n P XP ⟨t, d, rfl, h⟩
  walk_at "dl"
  rcases h with ⟨ks, rs, rfl, h1, h2, p⟩ | ⟨h1, h2, p⟩
  · refine ⟨_, rfl, .inl ⟨ks, rs, rfl, T.na_Table_kinds, .tup ks, fld_k, ks, d, rfl, h1, ?_, ?_, p⟩⟩
    · simp only [kindsB, Bool.and_eq_true, decide_eq_true_eq] at h2
      exact Nat.le_trans h2.1.2 (by decide)
    · simp only [kindsB, Bool.and_eq_true, decide_eq_true_eq] at h2
      exact h2.2
  · exact ⟨_, rfl, .inr ⟨h1, h2, p⟩⟩

abbrev s_law_made : Stmt := topS 48
theorem sc_law_made : FnScope ["scope"] ["scope"] (defScope s_law_made) := ⟨rfl, rfl, rfl, by decide +kernel, rfl, by decide +kernel, by decide +kernel⟩
theorem ok_law_made (T : Txt K mg cs tk0) (D : DefAt K mg "_law_made" s_law_made ["scope"]) (c_Table : HasI P w K mg base 6 cs.Table "kinds" "rows" (spI K TT cs.Table (ds_Table_init cs))) : Has P w K mg base CX0 8 "_law_made" ["scope"] (sp0 K TT (ds_law_made cs)) := by
  obtain ⟨f, fd, F, hm, hk, hb⟩ := D
  obtain ⟨_, _, c_Table_ok, c_Table_mk, c_Table_b, c_Table_kb⟩ := c_Table
  refine ⟨f, fd, F.okD sc_law_made (len_law_made cs) (fun S cdv A outer s H E hr => ?_), hm, hk, hb⟩
  refine ⟨_, _, (pss_one (ps_ret (pe_make c_Table_mk c_Table_ok (hr.mono (by decide)) rfl T.g_Table c_Table_b .nil passL (pa_cons (pe_dget (hu_of hr) (pv 0) pe_str (fun _ _ => rfl)) (pa_cons (pe_dget (hu_of hr) (pv 0) pe_str (fun _ _ => rfl)) pa_nil))))),
    (rds_ret (rd_make (rda_cons (rd_dget (rd_var (i := 0)) rd_str) (rda_cons (rd_dget (rd_var (i := 0)) rd_str) rda_nil)))), ?_⟩
  rintro ss n P ⟨ks, rs, rfl, hk, hr', h1, h2, p⟩
  walk_at "dl"
  exact ⟨T.ic_Table, .tup ks, .tup rs, rfl, hk, hr', (fun z => by rw [h1] at z; cases z), (fun _ z => by rw [h2] at z; cases z), fun _ _ => p⟩

abbrev s_law_no_table : Stmt := topS 57
theorem sc_law_no_table : FnScope ["caught"] ["caught"] (defScope s_law_no_table) := ⟨rfl, rfl, rfl, by decide +kernel, rfl, by decide +kernel, by decide +kernel⟩
theorem ok_law_no_table (T : Txt K mg cs tk0) (D : DefAt K mg "_law_no_table" s_law_no_table ["caught"]) : Has P w K mg base CX0 1 "_law_no_table" ["caught"] (sp0 K TT (ds_law_no_table cs)) := by
  obtain ⟨f, fd, F, hm, hk, hb⟩ := D
  refine ⟨f, fd, F.okD sc_law_no_table (len_law_no_table cs) (fun S cdv A outer s H E hr => ?_), hm, hk, hb⟩
  refine ⟨_, _, (pss_one (ps_ret (pe_callB call_isD (by rfl) T.n_isinstance (by decide +kernel) (pa_cons (pv 0) (pa_cons (pe_glob (v := .ref cs.BadTable) rfl T.g_BadTable rfl) pa_nil))))),
    (rds_ret (rd_is (.own _) (rd_var (i := 0)))), ?_⟩
  rintro ss n P ⟨rfl, p⟩
  walk_at "dl"
  exact ⟨trivial, true, T.i_BadTable, p⟩


abbrev s_law_same : Stmt := topS 53
theorem sc_law_same : FnScope ["thing", "scope"] ["thing", "scope"] (defScope s_law_same) := ⟨rfl, rfl, rfl, by decide +kernel, rfl, by decide +kernel, by decide +kernel⟩
theorem ok_law_same (T : Txt K mg cs tk0) (D : DefAt K mg "_law_same" s_law_same ["thing", "scope"]) : HasG P w K mg base CX0 1 "_law_same" ["thing", "scope"] (sp0 K TT (ds_law_same cs)) := by
  obtain ⟨f, fd, F, hm, hk, hb⟩ := D
  refine ⟨f, fd, fnG_okD F sc_law_same (len_law_same cs) (fun S cdv A outer s H E hg hr => ?_), hm, hk, hb⟩
  refine ⟨_, _, (pss_one (ps_ret (pe_and (pe_callB call_isD (by rfl) T.n_isinstance (by decide +kernel) (pa_cons (pv 0) (pa_cons (pe_glob (v := .ref cs.Table) rfl T.g_Table rfl) pa_nil))) (pe_one (pe_cmpR (op_eqU hr.units) (pe_callB (call_repr hg hr.units) (by rfl) T.n_repr (by decide +kernel) (pa_cons (pe_tup (pa_cons (pe_fld (pv 0) rfl) (pa_cons (pe_fld (pv 0) rfl) pa_nil))) pa_nil)) (pe_callB (call_repr hg hr.units) (by rfl) T.n_repr (by decide +kernel) (pa_cons (pe_tup (pa_cons (pe_dget (hu_of hr) (pv 1) pe_str (fun _ _ => rfl)) (pa_cons (pe_dget (hu_of hr) (pv 1) pe_str (fun _ _ => rfl)) pa_nil))) pa_nil)) (nomark _)))))),
    (rds_ret (rd_andV (rd_is (.own _) (rd_var (i := 0))) (rd_op o2_eq (rd_cb cal_repr (rda_cons (rd_tup (rda_cons (rd_fld (rd_var (i := 0))) (rda_cons (rd_fld (rd_var (i := 0))) rda_nil))) rda_nil)) (rd_cb cal_repr (rda_cons (rd_tup (rda_cons (rd_dget (rd_var (i := 1)) rd_str) (rda_cons (rd_dget (rd_var (i := 1)) rd_str) rda_nil))) rda_nil))))), ?_⟩
  rintro ss n P ⟨ks, rs, rfl, hk, hr', p⟩
  walk_at "dl"
  obtain ⟨pd, e1, e2⟩ := repr_good hk hr'
  refine ⟨trivial, true, T.i_Table, T.na_Table_kinds, _, fld_k, T.na_Table_rows, _, fld_r, pd, e1, e2, pd, e1, e2, ?_⟩
  show P (.bl (id (decide (pd.shown = pd.shown)))) n
  simpa using p

abbrev s_law_wide : Stmt := topS 52
theorem sc_law_wide : FnScope ["state", "kinds_here", "many", "rows_here", "spot", "lap", "at", "size_here", "row"] ["state"] (defScope s_law_wide) := ⟨rfl, rfl, rfl, by decide +kernel, rfl, by decide +kernel, by decide +kernel⟩
theorem ok_law_wide (T : Txt K mg cs tk0) (D : DefAt K mg "_law_wide" s_law_wide ["state"]) (c_law_draw : Has P w K mg base CX0 1 "_law_draw" ["state", "size_here"] (sp0 K TT ds_law_draw)) (c_law_cell : Has P w K mg base CX0 2 "_law_cell" ["state", "size_here"] (sp0 K TT ds_law_cell)) (c_law_put : Has P w K mg base CX0 1 "_law_put" ["row", "spot", "item"] (sp0 K TT ds_law_put)) : Has P w K mg base CX0 3 "_law_wide" ["state"] (sp0 K TT ds_law_wide) := by
  obtain ⟨f, fd, F, hm, hk, hb⟩ := D
  obtain ⟨_, _, c_law_draw_ok, c_law_draw_m, c_law_draw_k, c_law_draw_b⟩ := c_law_draw
  obtain ⟨_, _, c_law_cell_ok, c_law_cell_m, c_law_cell_k, c_law_cell_b⟩ := c_law_cell
  obtain ⟨_, _, c_law_put_ok, c_law_put_m, c_law_put_k, c_law_put_b⟩ := c_law_put
  refine ⟨f, fd, F.okD sc_law_wide (len_law_wide) (fun S cdv A outer s H E hr => ?_), hm, hk, hb⟩
  refine ⟨_, _, (pss_cons (ps_set (i := 1) sc_law_wide.nd rfl (by first | exact Or.inl rfl | exact Or.inr rfl) (pe_callTy call_tupU (by rfl) T.n_tuple (by decide +kernel) (pa_cons (pe_lc (own := [("lap", 5)]) (g := gName 5) rfl sc_law_wide.nd (pi_range1 (by rfl) T.n_range (pa_cons (pe_op op_addU pe_int (pe_call c_law_draw_ok (hr.mono (by decide)) rfl c_law_draw_m c_law_draw_k c_law_draw_b .nil pass0 (pa_cons (pv 0) (pa_cons pe_int pa_nil)))) pa_nil)) (blkOk_by (N := ["state", "kinds_here", "many", "rows_here", "spot", "lap", "at", "size_here", "row"]) (own := [("lap", 5)]) (sc := defScope s_law_wide) (by decide +kernel)) (fun _ _ _ _ _ => (pg_name (i := 5) sc_law_wide.nd rfl (by first | exact Or.inl rfl | exact Or.inr rfl))) (fun _ _ _ _ _ => pts_nil) (fun _ _ _ _ _ => (pe_op op_addU pe_int (pe_call c_law_draw_ok (hr.mono (by decide)) rfl c_law_draw_m c_law_draw_k c_law_draw_b .nil pass0 (pa_cons (pv 0) (pa_cons pe_int pa_nil)))))) pa_nil)))
      (pss_cons (ps_set (i := 2) sc_law_wide.nd rfl (by first | exact Or.inl rfl | exact Or.inr rfl) (pe_op op_addU pe_int (pe_call c_law_draw_ok (hr.mono (by decide)) rfl c_law_draw_m c_law_draw_k c_law_draw_b .nil pass0 (pa_cons (pv 0) (pa_cons pe_int pa_nil)))))
      (pss_cons (ps_setLc (i := 3) (own := [("lap", 5)]) (g := gName 5) rfl sc_law_wide.nd rfl rfl (sw_true rfl rfl rfl (by decide +kernel)) (pi_range1 (by rfl) T.n_range (pa_cons (pv 2) pa_nil)) (blkOk_by (N := ["state", "kinds_here", "many", "rows_here", "spot", "lap", "at", "size_here", "row"]) (own := [("lap", 5)]) (sc := defScope s_law_wide) (by decide +kernel)) (fun _ _ _ _ _ => (pg_name (i := 5) sc_law_wide.nd rfl (by first | exact Or.inl rfl | exact Or.inr rfl))) (fun _ _ _ _ _ => pts_nil) (fun _ _ _ _ _ => (pe_callTy call_tupU (by rfl) T.n_tuple (by decide +kernel) (pa_cons (pe_lc (own := [("size_here", 7)]) (g := gName 7) rfl sc_law_wide.nd (pi_tup (pv 1)) (blkOk_by (N := ["state", "kinds_here", "many", "rows_here", "spot", "lap", "at", "size_here", "row"]) (own := [("size_here", 7)]) (by rfl)) (fun _ _ _ _ _ => (pg_name (i := 7) sc_law_wide.nd rfl (by first | exact Or.inl rfl | exact Or.inr rfl))) (fun _ _ _ _ _ => pts_nil) (fun _ _ _ _ _ => (pe_call c_law_cell_ok (hr.mono (by decide)) rfl c_law_cell_m c_law_cell_k c_law_cell_b .nil pass0 (pa_cons (pv 0) (pa_cons (pv 7) pa_nil))))) pa_nil))))
      (pss_cons (ps_asg (pe_ix ix_seq (pv 3) (pe_call c_law_draw_ok (hr.mono (by decide)) rfl c_law_draw_m c_law_draw_k c_law_draw_b .nil pass0 (pa_cons (pv 0) (pa_cons (pv 2) pa_nil))) (fun _ _ => rfl)) (pg_sub (pv 3) (pe_call c_law_draw_ok (hr.mono (by decide)) rfl c_law_draw_m c_law_draw_k c_law_draw_b .nil pass0 (pa_cons (pv 0) (pa_cons (pv 2) pa_nil))) set_list))
      (pss_cons (ps_for PassesOwn.never rfl (pi_range1 (by rfl) T.n_range (pa_cons (pe_callB call_lenU (by rfl) T.n_len (by decide +kernel) (pa_cons (pv 1) pa_nil)) pa_nil)) (pg_name (i := 4) sc_law_wide.nd rfl (by first | exact Or.inl rfl | exact Or.inr rfl)) (pss_one (ps_if (pt_cmpR (op_eqU hr.units) (pe_lc (own := [("row", 8)]) (g := gName 8) rfl sc_law_wide.nd (pi_list (pv 3)) (blkOk_by (N := ["state", "kinds_here", "many", "rows_here", "spot", "lap", "at", "size_here", "row"]) (own := [("row", 8)]) (sc := defScope s_law_wide) (by decide +kernel)) (fun _ _ _ _ _ => (pg_name (i := 8) sc_law_wide.nd rfl (by first | exact Or.inl rfl | exact Or.inr rfl))) (fun _ _ _ _ _ => (pts_one (pt_cmpR op_notN (pe_ix ix_seq (pv 8) (pv 4) (fun _ _ => rfl)) pe_non (nomark _)))) (fun _ _ _ _ _ => pe_int)) (pe_lst pa_nil) (nomark _)) (pss_cons (ps_set (i := 6) sc_law_wide.nd rfl (by first | exact Or.inl rfl | exact Or.inr rfl) (pe_call c_law_draw_ok (hr.mono (by decide)) rfl c_law_draw_m c_law_draw_k c_law_draw_b .nil pass0 (pa_cons (pv 0) (pa_cons (pv 2) pa_nil))))
      (pss_one (ps_asg (pe_call c_law_put_ok (hr.mono (by decide)) rfl c_law_put_m c_law_put_k c_law_put_b .nil pass0 (pa_cons (pe_ix ix_seq (pv 3) (pv 6) (fun _ _ => rfl)) (pa_cons (pv 4) (pa_cons (pe_call c_law_draw_ok (hr.mono (by decide)) rfl c_law_draw_m c_law_draw_k c_law_draw_b .nil pass0 (pa_cons (pv 0) (pa_cons (pe_ix ix_seq (pv 1) (pv 4) (fun _ _ => rfl)) pa_nil))) pa_nil)))) (pg_sub (pv 3) (pv 6) set_list)))) pss_nil)))
      (pss_one (ps_ret (pe_disp (pps_cons pe_str (pv 1) (pps_cons pe_str (pe_callTy call_tupU (by rfl) T.n_tuple (by decide +kernel) (pa_cons (pv 3) pa_nil)) pps_nil)) (by rfl) (by rfl) (fun z => by cases z) (by decide))))))))),
    (rds_seq (rds_set (rd_cb cal_tuple (rda_cons (rd_lc (rdj_of (rdi_range1 (rda_cons (rd_op o2_add rd_int (rd_call0 (E := E0) (rda_st (i := 0) (rda_cons rd_int rda_nil)))) rda_nil))) (rdg_name (vs := [5]) (by decide)) rdt_yes (rd_op o2_add rd_int (rd_call0 (E := E0) (rda_st (i := 0) (rda_cons rd_int rda_nil))))) rda_nil)))
      (rds_seq (rds_set (rd_op o2_add rd_int (rd_call0 (E := E0) (rda_st (i := 0) (rda_cons rd_int rda_nil)))))
      (rds_seq (rds_setO (rdn_lc (rdj_of (rdi_range1 (rda_cons (rd_var (i := 2)) rda_nil))) (rdg_name (vs := [5]) (by decide)) rdt_yes (rd_cb cal_tuple (rda_cons (rd_lc (rdj_of (rdi_tup (rd_var (i := 1)))) (rdg_name (vs := [7]) (by decide)) rdt_yes (rd_call0 (E := E0) (rda_st (i := 0) (rda_cons (rd_var (i := 7)) rda_nil)))) rda_nil))))
      (rds_seq (rds_putO (i := 3) (rd_ixO (i := 3) (rd_call0 (E := E0) (rda_st (i := 0) (rda_cons (rd_var (i := 2)) rda_nil)))) (rd_call0 (E := E0) (rda_st (i := 0) (rda_cons (rd_var (i := 2)) rda_nil))))
      (rds_seq (rds_for (rdi_range1 (rda_cons (rd_cb cal_len (rda_cons (rd_var (i := 1)) rda_nil)) rda_nil)) (rdg_name (vs := [4]) (by decide)) (rds_if (rdt_test (rd_op o2_eq (rd_lc (rdj_own (i := 3)) (rdg_name (vs := [8]) (by decide)) (rdt_test (rd_op o2_notN (rd_op o2_ix (rd_var (i := 8)) (rd_var (i := 4))) rd_non)) rd_int) (rd_lst rda_nil))) (rds_seq (rds_set (rd_call0 (E := E0) (rda_st (i := 0) (rda_cons (rd_var (i := 2)) rda_nil))))
      (rds_putO (i := 3) (rd_call0 (E := E0) (rda_cons (rd_ixO (i := 3) (rd_var (i := 6))) (rda_cons (rd_var (i := 4)) (rda_cons (rd_call0 (E := E0) (rda_st (i := 0) (rda_cons (rd_op o2_ix (rd_var (i := 1)) (rd_var (i := 4))) rda_nil))) rda_nil)))) (rd_var (i := 6)))) rds_next))
      (rds_ret (rd_disp (.cons rd_str (rd_var (i := 1)) (.cons rd_str (rd_tupO (i := 3)) .nil))))))))), ?_⟩
  rintro ss n P ⟨rfl, hn, p⟩
  walk_at "dl"
  have hn' : n + 1000 < 1099511627776 := hn
  refine ⟨_, rfl, by decide, by decide, lim (by omega), fun a n1 a0 a1 ha => ?_⟩
  obtain ⟨a, rfl⟩ := Int.eq_ofNat_of_zero_le a0
  have ea : (1 : Int) + (a : Int) = ((1 + a : Nat) : Int) := by omega
  walk_at "dl"
  rw [ea]
  refine ⟨by omega, by omega, by rw [range_len]; omega, ?_⟩
  refine compM_gen (c := 1) (N := n + 1000) (good := fun _ d => betw 1 6 d = true) _ _ _ (by rw [range_len]; omega) (fun x hx m k hm q => ⟨_, rfl, by decide, by decide, lim (by omega), fun r m' r0 r1 hr' => ?_⟩) fun ks n2 h2 hl hks => ?_
  · refine q _ _ hr' ?_
    simp [betw]
    omega
  rw [range_len] at h2 hl
  have hk : ∀ d ∈ ks, betw 1 6 d = true := fun d hd => by
    obtain ⟨j, hj, rfl⟩ := List.mem_iff_getElem.mp hd
    have hj' : j < (rangeD 0 ((1 + a : Nat) : Int).toNat).length := by rw [range_len]; omega
    exact hks j _ _ (List.getElem?_eq_getElem hj') (List.getElem?_eq_getElem hj)
  refine ⟨_, rfl, by decide, by decide, lim (by omega), fun b n3 b0 b1 hb => ?_⟩
  obtain ⟨b, rfl⟩ := Int.eq_ofNat_of_zero_le b0
  have eb : (1 : Int) + (b : Int) = ((1 + b : Nat) : Int) := by omega
  walk_at "dl"
  rw [eb]
  refine ⟨by omega, by omega, by rw [range_len]; omega, ?_⟩
  refine compM_gen (c := 16) (N := n + 1000) (good := fun _ d => rowB ks d = true) _ _ _ (by rw [range_len]; omega) (fun x hx m k hm q => ⟨by omega, ?_⟩) fun rs n4 h4 hl4 hrs => ?_
  · refine compM_gen (c := 2) (N := n + 1000) (good := fun x d => cellB x d = true) _ _ _ (by omega) (fun x hx m k hm q => ?_) fun cs n5 h5 hl5 hcs => q _ _ (by omega) (rowB_of hl5 hcs)
    have z := hk x hx
    cases x with
    | int i =>
      simp only [betw, Bool.and_eq_true, decide_eq_true_eq] at z
      exact ⟨i, rfl, by omega, by omega, lim (by omega), fun d n' h g => q _ _ h g⟩
    | _ => simp [betw] at z
  rw [range_len] at h4 hl4
  have hr : ∀ d ∈ rs, rowB ks d = true := fun d hd => by
    obtain ⟨j, hj, rfl⟩ := List.mem_iff_getElem.mp hd
    have hj' : j < (rangeD 0 ((1 + b : Nat) : Int).toNat).length := by rw [range_len]; omega
    exact hrs j _ _ (List.getElem?_eq_getElem hj') (List.getElem?_eq_getElem hj)
  refine ⟨_, rfl, by omega, by omega, lim (by omega), fun s n5 s0 s1 h5 => ?_⟩
  obtain ⟨s, rfl⟩ := Int.eq_ofNat_of_zero_le s0
  have hs : s < rs.length := by omega
  refine ⟨_, at_nat (List.getElem?_eq_getElem hs), _, rfl, by omega, by omega, lim (by omega), fun t n6 t0 t1 h6 => ?_⟩
  obtain ⟨t, rfl⟩ := Int.eq_ofNat_of_zero_le t0
  have ht : t < rs.length := by omega
  refine ⟨t, ix_nat ht, by omega, by omega, fun i ρ m => m ≤ n6 + 2 * i ∧ ∃ rs2 u1 u2 u3 u4 u5, ρ = [.st, .d (.tup ks), .d (.int ((1 + b : Nat) : Int)), .ol rs2, u1, u2, u3, u4, u5] ∧ rs2.length = 1 + b ∧ (∀ r ∈ rs2, rowB ks r = true) ∧ ∀ j < i, colU rs2 j = false, ⟨by omega, _, _, _, _, _, _, rfl, by simp [hl4], ?_, fun j hj => by omega⟩, ?_, ?_⟩
  · intro r hm
    rcases List.mem_or_eq_of_mem_set hm with h | rfl
    · exact hr r h
    · exact hr _ (List.getElem_mem hs)
  · rintro i x ρ m hx ⟨hm, rs2, u1, u2, u3, u4, u5, rfl, hl2, hr2, hc⟩
    obtain ⟨hi, rfl⟩ := range_get hx
    walk_at "dl"
    refine ⟨by omega, compM_filter (f := fun r => if !DL.isNon (atN r i) then some (.int 1) else none) (fun r hm n3 k2 q2 => ?_) (eq_ones ?_)⟩
    · obtain ⟨cs, rfl, hcl, _⟩ := rowB_inv (hr2 r hm)
      have e : cs[i]? = some cs[i] := List.getElem?_eq_getElem (by omega)
      refine ⟨_, at_nat e, ?_⟩
      have z : atN (.tup cs) i = cs[i] := by
        show cs.getD i .non = cs[i]
        rw [List.getD_eq_getElem?_getD, e]
        rfl
      rw [z] at q2
      cases hb2 : DL.isNon cs[i] <;> simp only [hb2] at q2 ⊢ <;> simpa using q2
    · have e : (rs2.all fun r => !!DL.isNon (atN r i)) = colU rs2 i := by simp [colU]
      rw [e]
      cases hcu : colU rs2 i with
      | false =>
        refine ⟨by omega, rs2, _, _, _, _, _, rfl, hl2, hr2, fun j hj => ?_⟩
        by_cases hji : j = i
        · rw [hji]
          exact hcu
        · exact hc j (by omega)
      | true =>
        refine ⟨_, rfl, by omega, by omega, lim (by omega), fun v m1 v0 v1 hm1 => ?_⟩
        obtain ⟨v, rfl⟩ := Int.eq_ofNat_of_zero_le v0
        have hv : v < rs2.length := by omega
        have hrv := hr2 _ (List.getElem_mem hv)
        obtain ⟨cs, ecs, hcl, hcc⟩ := rowB_inv hrv
        have hki := hk _ (List.getElem_mem hi)
        cases hkk : ks[i] with
        | int kk =>
          rw [hkk] at hki
          have eki : ks[i]? = some (.int kk) := by rw [List.getElem?_eq_getElem hi, hkk]
          simp only [betw, Bool.and_eq_true, decide_eq_true_eq] at hki
          refine ⟨_, at_nat (List.getElem?_eq_getElem hv), .int kk, at_nat eki, kk, rfl, by omega, by omega, lim (by omega), fun w' m2 w0 w1 hm2 => ?_⟩
          refine ⟨cs, i, .int w', by rw [ecs], by omega, by omega, v, ix_nat hv, by omega, _, _, _, _, _, _, rfl, by simp [hl2], ?_, ?_⟩
          · rw [put_set (by omega)]
            intro r hm'
            rcases List.mem_or_eq_of_mem_set hm' with h | rfl
            · exact hr2 r h
            · rw [ecs] at hrv
              refine rowB_set hrv eki ?_
              simp [cellB]
              omega
          · rw [put_set (by omega)]
            intro j hj
            by_cases hji : j = i
            · subst hji
              unfold colU
              rw [List.all_eq_false]
              exact ⟨_, mem_set' hv, by rw [atN_self (by omega)]; simp [DL.isNon]⟩
            · exact col_set (hc j (by omega)) hv (by rw [atN_set (fun z => hji z.symm), ecs])
        | _ => rw [hkk] at hki; simp [betw] at hki
  · rintro ρ m ⟨hm, rs2, u1, u2, u3, u4, u5, rfl, hl2, hr2, hc⟩
    rw [range_len] at hm hc
    walk_at "dl"
    refine ⟨by decide, p _ _ _ (by omega) ?_ ?_ ?_ ?_⟩
    · exact nxs_of fun d hd => by
        have z := hk d hd
        cases d <;> first | rfl | (simp [betw] at z)
    · exact nxs_of fun d hd => row_nx (hr2 d hd)
    · simp only [kindsB, Bool.and_eq_true, decide_eq_true_eq, List.all_eq_true]
      exact ⟨⟨by omega, by omega⟩, hk⟩
    · simp only [rowsB, Bool.and_eq_true, decide_eq_true_eq, List.all_eq_true]
      exact ⟨⟨⟨by omega, by omega⟩, hr2⟩, by rw [firstU_none hc]; rfl⟩


abbrev s_law_begun : Stmt := topS 39
theorem sc_law_begun : FnScope ["script", "cells_here", "large", "cell"] ["script"] (defScope s_law_begun) := ⟨rfl, rfl, rfl, by decide +kernel, rfl, by decide +kernel, by decide +kernel⟩
theorem ok_law_begun (T : Txt K mg cs tk0) (D : DefAt K mg "_law_begun" s_law_begun ["script"]) : Has P w K mg base CX0 1 "_law_begun" ["script"] (spBegun K) := by
  obtain ⟨f, fd, F, hm, hk, hb⟩ := D
  refine ⟨f, fd, F.ok sc_law_begun (fun vs H Q E h => by obtain ⟨a, ns, rfl, _⟩ := h; rfl) (fun cdv A outer s H vs Q E hr h => ?_), hm, hk, hb⟩
  obtain ⟨a, ns, rfl, hS, hl, q⟩ := h
  refine ⟨_, (pss_cons (ps_setLc (i := 1) (own := [("cell", 3)]) (g := gName 3) rfl sc_law_begun.nd rfl rfl (sw_true rfl rfl rfl (by decide +kernel)) (pi_list (pv 0)) (blkOk_by (N := ["script", "cells_here", "large", "cell"]) (own := [("cell", 3)]) (sc := defScope s_law_begun) (by decide +kernel)) (fun _ _ _ _ _ => (pg_name (i := 3) sc_law_begun.nd rfl (by first | exact Or.inl rfl | exact Or.inr rfl))) (fun _ _ _ _ _ => pts_nil) (fun _ _ _ _ _ => (pe_callB call_rAbs (by rfl) T.n_abs (by decide +kernel) (pa_cons (pv 3) pa_nil))))
      (pss_cons (ps_setLc (i := 2) (own := [("cell", 3)]) (g := gName 3) rfl sc_law_begun.nd rfl rfl (sw_true rfl rfl rfl (by decide +kernel)) (pi_list (pv 1)) (blkOk_by (N := ["script", "cells_here", "large", "cell"]) (own := [("cell", 3)]) (sc := defScope s_law_begun) (by decide +kernel)) (fun _ _ _ _ _ => (pg_name (i := 3) sc_law_begun.nd rfl (by first | exact Or.inl rfl | exact Or.inr rfl))) (fun _ _ _ _ _ => (pts_one (pt_cmpR op_ge (pv 3) (pe_op op_pow pe_int pe_int) (nomark _)))) (fun _ _ _ _ _ => (pe_op op_sub (pv 3) (pe_op op_pow pe_int pe_int))))
      (pss_one (ps_ret (pe_disp (pps_cons pe_str (pv 2) (pps_cons pe_str (pv 1) (pps_cons pe_str pe_int (pps_cons pe_str pe_int pps_nil)))) (by rfl) (by rfl) (fun z => by cases z) (by decide)))))), ?_⟩
  refine ⟨.ref a, rfl, a, rfl, ⟨_, hS⟩, fun c hc => lc_list (xs := ns.map V.int) (fun i Hx => Hx = upd H c (.lst (((ns.take i).map absI).map V.int))) (by simp) ?_ ?_ ?_⟩
  · rintro i Hx hi rfl
    exact Evl.ex_l (Evl.Ex.new hc) hS
  · rintro i x Hx ex rfl
    rw [List.getElem?_map] at ex
    cases ez : ns[i]? with
    | none => rw [ez] at ex; cases ex
    | some z =>
      rw [ez] at ex
      cases ex
      refine ⟨rfl, ?_⟩
      unfold tYes
      dsimp only
      rw [if_pos rfl]
      refine ⟨_, rfl, z, rfl, _, upd_same, ?_, ?_⟩
      · have h1 : ((List.map V.int (List.map absI (List.take i ns))).length) ≤ 63 := by simp; omega
        exact Evl.sz_lt (by omega)
      · rw [upd_upd, List.take_add_one, ez]
        simp [absI]
  · rintro Hx rfl
    rw [List.length_map, List.take_length]
    generalize hcs : ns.map absI = cs
    have hz : cs.length ≤ 63 := by rw [← hcs, List.length_map]; exact hl
    have hp : ∀ x ∈ cs, 0 ≤ x := fun x hx => by
      rw [← hcs] at hx
      obtain ⟨z, _, rfl⟩ := List.mem_map.mp hx
      unfold absI
      split <;> omega
    have hbz : ∀ ys : List Int, (bigI ys).length ≤ ys.length := fun ys => by
      unfold bigI
      rw [List.length_map]
      exact List.length_filter_le _ _
    refine ⟨.ref c, rfl, c, rfl, ⟨_, SqL.of upd_same⟩, fun l hl' => lc_list (xs := cs.map V.int) (fun i Hx => Hx = upd (upd H c (.lst (cs.map V.int))) l (.lst ((bigI (cs.take i)).map V.int))) (by simp [bigI]) ?_ ?_ ?_⟩
    · rintro i Hx hi rfl
      exact Evl.ex_l (Evl.Ex.new hl') (SqL.of upd_same)
    · rintro i x Hx ex rfl
      rw [List.getElem?_map] at ex
      cases ez : cs[i]? with
      | none => rw [ez] at ex; cases ex
      | some z =>
        rw [ez] at ex
        cases ex
        have et : cs.take (i + 1) = cs.take i ++ [z] := by
          rw [List.take_add_one, ez]
          rfl
        refine ⟨rfl, ?_⟩
        refine ⟨_, rfl, 10, 18, rfl, rfl, ⟨by decide, by decide, by decide⟩, z, _, rfl, rfl, _, rfl, ?_⟩
        rw [et, bigI_snoc]
        have e18 : ((10 : Int) ^ Int.toNat 18) = 10 ^ 18 := rfl
        rw [e18]
        dsimp only
        by_cases h : (10 : Int) ^ 18 ≤ z
        · rw [if_pos (decide_eq_true h), if_pos h]
          refine ⟨_, rfl, 10, 18, rfl, rfl, ⟨by decide, by decide, by decide⟩, z, _, rfl, rfl, _, upd_same, ?_, ?_⟩
          · have h1 := hbz (cs.take i)
            have h2 : (cs.take i).length ≤ cs.length := by rw [List.length_take]; omega
            exact Evl.sz_lt (by rw [List.length_map]; omega)
          · rw [upd_upd, e18]
            simp
        · rw [if_neg (by simpa using h), if_neg h]
    · rintro Hx rfl
      rw [List.length_map, List.take_length]
      have hlc : c ≠ l := fun z => by rw [z, upd_same] at hl'; cases hl'
      have hl0 : H l = none := by rw [upd_ne hlc.symm] at hl'; exact hl'
      intro d hd
      have hdl : l ≠ d := fun z => by rw [z, upd_same] at hd; cases hd
      have hd1 : upd H c (.lst (cs.map V.int)) d = none := by rw [upd_ne hdl.symm] at hd; exact hd
      have hdc : c ≠ d := fun z => by rw [z, upd_same] at hd1; cases hd1
      have hd0 : H d = none := by rw [upd_ne hdc.symm] at hd1; exact hd1
      have em : mergeK [] (stBegun l c) = stBegun l c := by rfl
      have hb : ∀ x ∈ bigI cs, 0 ≤ x := fun x hx => by
        unfold bigI at hx
        obtain ⟨y, hy, rfl⟩ := List.mem_map.mp hx
        have h1 := (List.mem_filter.mp hy).2
        simp only [decide_eq_true_eq] at h1
        omega
      refine ⟨.ref l, rfl, .ref c, rfl, upd_same, stBegun l c, rfl, by simp [stBegun], ?_⟩
      rw [em, upd_upd]
      exact q c l d cs (bigI cs) _ hc hl0 hd0 hlc hdc hdl (by rw [upd_ne hdc, upd_ne hlc, upd_same]) (by rw [upd_ne hdl, upd_same]) upd_same (fun b h1 h2 h3 => by rw [upd_ne h3, upd_ne h2, upd_ne h1]) hp hb hz (Nat.le_trans (hbz cs) hz)

abbrev s_law_refused : Stmt := topS 47
theorem sc_law_refused : FnScope ["state", "work", "args", "bads", "wrong", "told", "caught", "spot", "item", "check", "each"] ["state", "work", "args", "bads"] (defScope s_law_refused) := ⟨rfl, rfl, rfl, by decide +kernel, rfl, by decide +kernel, by decide +kernel⟩
theorem ok_law_refused {c9 : Addr} (T : Txt K mg cs tk0) (D : DefC K mg "_law_refused" s_law_refused ["state", "work", "args", "bads"] c9) (c_law_draw : Has P w K mg base CX0 1 "_law_draw" ["state", "size_here"] (sp0 K TT ds_law_draw)) (c_law_pick : Has P w K mg base CX0 2 "_law_pick" ["state", "several"] (sp0 K TT ds_law_pick)) (DC : DefAt K mg "_law_caught" s_law_caught ["work"]) (MA : MakesAt base mg TT "_law_refused.<locals>.<lambda>" c9) : HasG P w K mg base CX0 25 "_law_refused" ["state", "work", "args", "bads"] (sp0 K TT (ds_law_refused K cs (LamOkD P w K mg base TT 20) (HeldD P w K mg base TT 5))) := by
  obtain ⟨f, fd, F, hm, hk, hb⟩ := D
  obtain ⟨_, _, c_law_draw_ok, c_law_draw_m, c_law_draw_k, c_law_draw_b⟩ := c_law_draw
  obtain ⟨_, _, c_law_pick_ok, c_law_pick_m, c_law_pick_k, c_law_pick_b⟩ := c_law_pick
  refine ⟨f, fd, fnC_okD F sc_law_refused (len_law_refused _ _ _ _) (fun S A outer s H E hg hr => ?_), hm, hk, hb⟩
  refine ⟨_, _, (pss_cons (ps_setLc (i := 4) (own := [("each", 10)]) (g := gName 10) rfl sc_law_refused.nd rfl rfl (sw_true rfl rfl rfl (by decide +kernel)) (pi_list (pv 3)) (blkOk_by (N := ["state", "work", "args", "bads", "wrong", "told", "caught", "spot", "item", "check", "each"]) (own := [("each", 10)]) (sc := defScope s_law_refused) (by decide +kernel)) (fun _ _ _ _ _ => (pg_name (i := 10) sc_law_refused.nd rfl (by first | exact Or.inl rfl | exact Or.inr rfl))) (fun _ _ _ _ _ => (pts_one (pt_cmpR (op_eqU hr.units) (pe_call c_law_draw_ok (hr.mono (by decide)) rfl c_law_draw_m c_law_draw_k c_law_draw_b .nil pass0 (pa_cons (pv 0) (pa_cons pe_int pa_nil))) pe_int (nomark _)))) (fun _ _ _ _ _ => (pv 10)))
      (pss_cons (ps_set (i := 4) sc_law_refused.nd rfl (by first | exact Or.inl rfl | exact Or.inr rfl) (pe_ifExp (pt_cmpR (op_neNil hr.units) (pv 4) (pe_lst pa_nil) (nomark _)) (pv 4) (pe_lst (pa_cons (pe_call c_law_pick_ok (hr.mono (by decide)) rfl c_law_pick_m c_law_pick_k c_law_pick_b .nil pass0 (pa_cons (pv 0) (pa_cons (pv 3) pa_nil))) pa_nil))))
      (pss_cons (ps_set (i := 5) sc_law_refused.nd rfl (by first | exact Or.inl rfl | exact Or.inr rfl) (pe_callTy call_rListU (by rfl) T.n_list (by decide +kernel) (pa_cons (pv 2) pa_nil)))
      (pss_cons (ps_for PassesOwn.never rfl (pi_list (pv 4)) (pg_tup rfl (pgs_cons (pg_name (i := 7) sc_law_refused.nd rfl (by first | exact Or.inl rfl | exact Or.inr rfl)) (pgs_cons (pg_name (i := 8) sc_law_refused.nd rfl (by first | exact Or.inl rfl | exact Or.inr rfl)) (pgs_cons (pg_name (i := 9) sc_law_refused.nd rfl (by first | exact Or.inl rfl | exact Or.inr rfl)) pgs_nil)))) (pss_one (ps_asg (pv 8) (pg_sub (pv 5) (pv 7) set_list))))
      (pss_cons (ps_set (i := 6) sc_law_refused.nd rfl (by first | exact Or.inl rfl | exact Or.inr rfl) (lam_call (k := 22) DC sc_law_caught (fun g cdg => caught_gives rfl T.g_FoundError rfl rfl rfl) MA rfl (hr.mono (by decide)) (LamX.lamS_by (sc := defScope s_law_refused) (by decide +kernel)) rfl rfl (fun _ _ _ _ _ => rfl) (fun A9 outer9 s9 H9 E9 f9 c9 hr => (pe_callV (k := 20) (i := 1) (hr.mono (by decide)) rfl (by first | exact Or.inl rfl | exact Or.inr (Or.inl rfl) | exact Or.inr (Or.inr rfl)) (passes_call (takes_of rfl rfl rfl rfl) (fun _ _ _ _ h => h)) (pa_cons (pv 5) pa_nil)))))
      (pss_one (ps_ret (pe_and (pe_cmpR op_notN (pv 6) pe_non (nomark _)) (pe_one (pe_callE (k := 5) (pe_ix ix_seq (pe_ix ix_seq (pv 4) pe_int (fun _ _ => rfl)) pe_int (fun _ _ => rfl)) (hr.mono (by decide)) (pa_cons (pv 6) pa_nil))))))))))),
    (rds_seq (rds_set (rd_lc (rdj_of (rdi_list (rd_var (i := 3)))) (rdg_name (vs := [10]) (by decide)) (rdt_test (rd_op o2_eq (rd_call0 (E := E0) (rda_st (i := 0) (rda_cons rd_int rda_nil))) rd_int)) (rd_var (i := 10))))
      (rds_seq (rds_set (rd_if (rdt_test (rd_op o2_neNil (rd_var (i := 4)) (rd_lst rda_nil))) (rd_var (i := 4)) (rd_lst (rda_cons (rd_call0 (E := E0) (rda_st (i := 0) (rda_cons (rd_var (i := 3)) rda_nil))) rda_nil))))
      (rds_seq (rds_setO (rdn_list (rd_var (i := 2))))
      (rds_seq (rds_for (rdi_list (rd_var (i := 4))) (rdg_three (vs := [7, 8, 9]) (by decide) (by decide) (by decide)) (rds_putO (i := 5) (rd_var (i := 8)) (rd_var (i := 7))))
      (rds_seq (rds_frz (i := 5) (rds_set (rd_lam fun _ => (rd_callV (i := 1) (rd_var (i := 5))))))
      (rds_ret (rd_andV (rd_op o2_notN (rd_var (i := 6)) rd_non) (rd_callE (rd_op o2_ix (rd_op o2_ix (rd_var (i := 4)) rd_int) rd_int) (rda_cons (rd_var (i := 6)) rda_nil))))))))), ?_⟩
  rintro ss n P ⟨F, G, args, bads, rfl, hG, h1, h2, h3, hn, hb, p⟩
  walk_at "dl"
  have hn' : n + 200 < 1099511627776 := hn
  refine ⟨by omega, compM_sub (c := 1) (N := n + 100) bads n _ (by omega) (fun x hx m k hm q => ⟨3, rfl, by decide, by decide, lim (by omega), fun r m' r0 r1 h => ?_⟩) fun ds n1 hn1 hs => ?_⟩
  · simp only [eqP_int, id]
    by_cases hr0 : r = 0
    · rw [show decide (r = 0) = true from decide_eq_true hr0]
      exact q _ _ (by omega) (.inr rfl)
    · rw [show decide (r = 0) = false from decide_eq_false hr0]
      exact q _ _ (by omega) (.inl rfl)
  · cases ds with
    | nil =>
      simp only [List.isEmpty_nil, Bool.not_true]
      refine ⟨bads, .inr rfl, by omega, by omega, lim (by omega), fun x hx n2 h => ?_⟩
      have hs2 : [x].Sublist bads := List.singleton_sublist.mpr hx
      have hm2 : n2 ≤ n + 200 := by omega
      obtain ⟨i0, d0, f0, e0, hi0⟩ := hb x hx
      have hh : ([x] : List D).head? = some (.tup [.int (i0 : Int), d0, .fnv f0]) := by rw [e0]; rfl
      have hw : atD [x] 0 = some x := at_zero
      walk_at "dl"
      refine ⟨fun i ρ m => m = n2 ∧ ∃ s7 s8 s9 s10, ρ = [.st, .fv F, .d (.lst args), .d (.lst bads), .d (.lst ([x])), .ol (putsD args (([x]).take i)), .no, s7, s8, s9, s10], ⟨rfl, _, _, _, _, rfl⟩, ?_, ?_⟩
      · rintro i x1 ρ m hx1 ⟨rfl, s7, s8, s9, s10, rfl⟩
        obtain ⟨i1, d1, f1, rfl, hi1⟩ := hb _ (hs2.subset (List.mem_of_getElem? hx1))
        walk_at "dl"
        exact ⟨i1, ix_nat (by rw [puts_len]; exact hi1), .d (.int (i1 : Int)), .d d1, .d (.fnv f1), s10, by rw [puts_take hx1]; rfl⟩
      · rintro ρ m ⟨rfl, s7, s8, s9, s10, rfl⟩
        have ht : ([x]).take ([x]).length = [x] := List.take_length
        simp only [List.length_cons, List.length_nil] at ht
        try rw [ht]
        walk_at "dl"
        refine ⟨F, rfl, G, hG, ?_⟩
        try rw [ht]
        refine p _ _ i0 d0 f0 hs2 hh hm2 _ _ fun C ns ds n1 hc => ⟨hc.1, ?_⟩
        obtain ⟨_, DS, hD, hP⟩ := hc
        subst e0
        exact ⟨_, at_zero, .fnv f0, at_nat (j := 2) rfl, DS, hD, hP⟩
    | cons x xs =>
      have hs2 : (x :: xs).Sublist bads := hs
      have hm2 : n1 ≤ n + 200 := by omega
      obtain ⟨i0, d0, f0, e0, hi0⟩ := hb x (hs2.subset List.mem_cons_self)
      have hh : (x :: xs).head? = some (.tup [.int (i0 : Int), d0, .fnv f0]) := by rw [e0]; rfl
      have hw : atD (x :: xs) 0 = some x := at_zero
      walk_at "dl"
      refine ⟨fun i ρ m => m = n1 ∧ ∃ s7 s8 s9 s10, ρ = [.st, .fv F, .d (.lst args), .d (.lst bads), .d (.lst (x :: xs)), .ol (putsD args ((x :: xs).take i)), .no, s7, s8, s9, s10], ⟨rfl, _, _, _, _, rfl⟩, ?_, ?_⟩
      · rintro i x1 ρ m hx1 ⟨rfl, s7, s8, s9, s10, rfl⟩
        obtain ⟨i1, d1, f1, rfl, hi1⟩ := hb _ (hs2.subset (List.mem_of_getElem? hx1))
        walk_at "dl"
        exact ⟨i1, ix_nat (by rw [puts_len]; exact hi1), .d (.int (i1 : Int)), .d d1, .d (.fnv f1), s10, by rw [puts_take hx1]; rfl⟩
      · rintro ρ m ⟨rfl, s7, s8, s9, s10, rfl⟩
        have ht : (x :: xs).take (x :: xs).length = x :: xs := List.take_length
        simp only [List.length_cons, List.length_nil] at ht
        try rw [ht]
        walk_at "dl"
        refine ⟨F, rfl, G, hG, ?_⟩
        try rw [ht]
        refine p _ _ i0 d0 f0 hs2 hh hm2 _ _ fun C ns ds n1 hc => ⟨hc.1, ?_⟩
        obtain ⟨_, DS, hD, hP⟩ := hc
        subst e0
        exact ⟨_, at_zero, .fnv f0, at_nat (j := 2) rfl, DS, hD, hP⟩

abbrev s_with_rows : Stmt := topS 34
theorem sc_with_rows : FnScope ["table", "rows", "matter"] ["table", "rows"] (defScope s_with_rows) := ⟨rfl, rfl, rfl, by decide +kernel, rfl, by decide +kernel, by decide +kernel⟩
theorem ok_with_rows (T : Txt K mg cs tk0) (D : DefAt K mg "_with_rows" s_with_rows ["table", "rows"]) (c_first_unread : Has P w K mg base CX0 1 "first_unread" ["rows"] (sp0 K TT ds_first_unread)) (x_AllUnread : HasX1 P w K mg base cs.AllUnread "matter") (c_Table : HasI P w K mg base 6 cs.Table "kinds" "rows" (spI K TT cs.Table (ds_Table_init cs))) : Has P w K mg base (L2.CX P w) 8 "_with_rows" ["table", "rows"] (spX K TT (ds_with_rows cs)) := by
  obtain ⟨f, fd, F, hm, hk, hb⟩ := D
  obtain ⟨_, _, c_first_unread_ok, c_first_unread_m, c_first_unread_k, c_first_unread_b⟩ := c_first_unread
  obtain ⟨_, _, _, _, x_AllUnread_o, x_AllUnread_n, x_AllUnread_i, x_AllUnread_t, x_AllUnread_f, x_AllUnread_b⟩ := x_AllUnread
  obtain ⟨_, _, c_Table_ok, c_Table_mk, c_Table_b, c_Table_kb⟩ := c_Table
  refine ⟨f, fd, F.okXD sc_with_rows (len_with_rows cs) (fun S cdv A outer s H E hr => ?_), hm, hk, hb⟩
  have tk := takes_of (X := cxOf (L2.CX P w) P w K mg base ["table", "rows", "matter"] "_with_rows" (defScope s_with_rows) f cdv A outer s H E) (E := E) rfl rfl rfl rfl
  refine ⟨_, _, (pss_cons (ps_set (i := 2) sc_with_rows.nd rfl (by first | exact Or.inl rfl | exact Or.inr rfl) (pe_call c_first_unread_ok (hr.mono (by decide)) rfl c_first_unread_m c_first_unread_k c_first_unread_b .nil pass0 (pa_cons (pv 1) pa_nil)))
      (pss_cons (ps_if (pt_cmpR op_notN (pv 2) pe_non (nomark _)) (pss_one (ps_raise (W := fun cls d _ H => E cls d H) rfl tk (pmk_oex x_AllUnread_o x_AllUnread_i x_AllUnread_t x_AllUnread_f (hr.mono (by decide)) x_AllUnread_b .nil pass0 rfl T.g_AllUnread (pa_cons (pv 2) pa_nil)))) pss_nil)
      (pss_one (ps_ret (pe_make c_Table_mk c_Table_ok (hr.mono (by decide)) rfl T.g_Table c_Table_b .nil (passes_call tk (fun _ _ _ _ h => h)) (pa_cons (pe_fld (pv 0) rfl) (pa_cons (pv 1) pa_nil))))))),
    (rds_seq (rds_set (rd_call0 (E := E0) (rda_cons (rd_var (i := 1)) rda_nil)))
      (rds_seq (rds_if (rdt_test (rd_op o2_notN (rd_var (i := 2)) rd_non)) (rds_raise1 x_AllUnread_o x_AllUnread_n (rda_cons (rd_var (i := 2)) rda_nil)) rds_next)
      (rds_ret (rd_make (rda_cons (rd_fld (rd_var (i := 0))) (rda_cons (rd_var (i := 1)) rda_nil)))))), ?_⟩
  rintro ss n P XP ⟨ks, rs, rows, rfl, hk, hr', h1, h2, hx, hp⟩
  walk_at "dl"
  have hk' := hk
  simp only [kindsB, Bool.and_eq_true, decide_eq_true_eq] at hk'
  refine ⟨ks.length, rows, rfl, h1, by omega, by omega, fun r hr2 => ?_, ?_⟩
  · obtain ⟨cs', e, hl, _⟩ := rowB_inv (hr' r hr2)
    exact ⟨cs', e, hl⟩
  cases e : firstU ks.length rows with
  | some j => exact ⟨_, rfl, hx j e⟩
  | none =>
    refine ⟨T.na_Table_kinds, _, fld_k, T.ic_Table, .tup ks, .tup rows, rfl, kinds_nx hk, nxs_of fun d hd => row_nx (hr' d hd), (fun z => by rw [hk] at z; cases z), (fun _ z => ?_), fun _ _ => hp e⟩
    have g : rowsB ks (.tup rows) = true := by
      simp only [rowsB, Bool.and_eq_true, decide_eq_true_eq, List.all_eq_true]
      exact ⟨⟨⟨h1, h2⟩, hr'⟩, by rw [e]; rfl⟩
    have z : rowsB ks (.tup rows) = false := z
    rw [g] at z
    cases z

abbrev s_law_no_row : Stmt := topS 65
theorem sc_law_no_row : FnScope ["caught"] ["caught"] (defScope s_law_no_row) := ⟨rfl, rfl, rfl, by decide +kernel, rfl, by decide +kernel, by decide +kernel⟩
theorem ok_law_no_row (T : Txt K mg cs tk0) (D : DefAt K mg "_law_no_row" s_law_no_row ["caught"]) : Has P w K mg base CX0 1 "_law_no_row" ["caught"] (sp0 K TT (ds_law_no_row cs)) := by
  obtain ⟨f, fd, F, hm, hk, hb⟩ := D
  refine ⟨f, fd, F.okD sc_law_no_row (len_law_no_row cs) (fun S cdv A outer s H E hr => ?_), hm, hk, hb⟩
  refine ⟨_, _, (pss_one (ps_ret (pe_callB call_isD (by rfl) T.n_isinstance (by decide +kernel) (pa_cons (pv 0) (pa_cons (pe_glob (v := .ref cs.BadRow) rfl T.g_BadRow rfl) pa_nil))))),
    (rds_ret (rd_is (.own _) (rd_var (i := 0)))), ?_⟩
  rintro ss n P ⟨rfl, p⟩
  walk_at "dl"
  exact ⟨trivial, true, T.i_BadRow, p⟩

abbrev s_law_no_valley : Stmt := topS 59
theorem sc_law_no_valley : FnScope ["caught"] ["caught"] (defScope s_law_no_valley) := ⟨rfl, rfl, rfl, by decide +kernel, rfl, by decide +kernel, by decide +kernel⟩
theorem ok_law_no_valley (T : Txt K mg cs tk0) (D : DefAt K mg "_law_no_valley" s_law_no_valley ["caught"]) : Has P w K mg base CX0 1 "_law_no_valley" ["caught"] (sp0 K TT (ds_law_no_valley cs)) := by
  obtain ⟨f, fd, F, hm, hk, hb⟩ := D
  refine ⟨f, fd, F.okD sc_law_no_valley (len_law_no_valley cs) (fun S cdv A outer s H E hr => ?_), hm, hk, hb⟩
  refine ⟨_, _, (pss_one (ps_ret (pe_callB call_isD (by rfl) T.n_isinstance (by decide +kernel) (pa_cons (pv 0) (pa_cons (pe_glob (v := .ref cs.BadValley) rfl T.g_BadValley rfl) pa_nil))))),
    (rds_ret (rd_is (.own _) (rd_var (i := 0)))), ?_⟩
  rintro ss n P ⟨rfl, p⟩
  walk_at "dl"
  exact ⟨trivial, true, T.i_BadValley, p⟩

abbrev s_law_no_matter : Stmt := topS 58
theorem sc_law_no_matter : FnScope ["caught"] ["caught"] (defScope s_law_no_matter) := ⟨rfl, rfl, rfl, by decide +kernel, rfl, by decide +kernel, by decide +kernel⟩
theorem ok_law_no_matter (T : Txt K mg cs tk0) (D : DefAt K mg "_law_no_matter" s_law_no_matter ["caught"]) : Has P w K mg base CX0 1 "_law_no_matter" ["caught"] (sp0 K TT (ds_law_no_matter cs)) := by
  obtain ⟨f, fd, F, hm, hk, hb⟩ := D
  refine ⟨f, fd, F.okD sc_law_no_matter (len_law_no_matter cs) (fun S cdv A outer s H E hr => ?_), hm, hk, hb⟩
  refine ⟨_, _, (pss_one (ps_ret (pe_callB call_isD (by rfl) T.n_isinstance (by decide +kernel) (pa_cons (pv 0) (pa_cons (pe_glob (v := .ref cs.BadMatter) rfl T.g_BadMatter rfl) pa_nil))))),
    (rds_ret (rd_is (.own _) (rd_var (i := 0)))), ?_⟩
  rintro ss n P ⟨rfl, p⟩
  walk_at "dl"
  exact ⟨trivial, true, T.i_BadMatter, p⟩

abbrev s_law_no_custom : Stmt := topS 60
theorem sc_law_no_custom : FnScope ["caught"] ["caught"] (defScope s_law_no_custom) := ⟨rfl, rfl, rfl, by decide +kernel, rfl, by decide +kernel, by decide +kernel⟩
theorem ok_law_no_custom (T : Txt K mg cs tk0) (D : DefAt K mg "_law_no_custom" s_law_no_custom ["caught"]) : Has P w K mg base CX0 1 "_law_no_custom" ["caught"] (sp0 K TT (ds_law_no_custom cs)) := by
  obtain ⟨f, fd, F, hm, hk, hb⟩ := D
  refine ⟨f, fd, F.okD sc_law_no_custom (len_law_no_custom cs) (fun S cdv A outer s H E hr => ?_), hm, hk, hb⟩
  refine ⟨_, _, (pss_one (ps_ret (pe_callB call_isD (by rfl) T.n_isinstance (by decide +kernel) (pa_cons (pv 0) (pa_cons (pe_glob (v := .ref cs.BadCustom) rfl T.g_BadCustom rfl) pa_nil))))),
    (rds_ret (rd_is (.own _) (rd_var (i := 0)))), ?_⟩
  rintro ss n P ⟨rfl, p⟩
  walk_at "dl"
  exact ⟨trivial, true, T.i_BadCustom, p⟩

abbrev s_law_no_kind : Stmt := topS 66
theorem sc_law_no_kind : FnScope ["caught"] ["caught"] (defScope s_law_no_kind) := ⟨rfl, rfl, rfl, by decide +kernel, rfl, by decide +kernel, by decide +kernel⟩
theorem ok_law_no_kind (T : Txt K mg cs tk0) (D : DefAt K mg "_law_no_kind" s_law_no_kind ["caught"]) : Has P w K mg base CX0 1 "_law_no_kind" ["caught"] (sp0 K TT (ds_law_no_kind cs)) := by
  obtain ⟨f, fd, F, hm, hk, hb⟩ := D
  refine ⟨f, fd, F.okD sc_law_no_kind (len_law_no_kind cs) (fun S cdv A outer s H E hr => ?_), hm, hk, hb⟩
  refine ⟨_, _, (pss_one (ps_ret (pe_callB call_isD (by rfl) T.n_isinstance (by decide +kernel) (pa_cons (pv 0) (pa_cons (pe_glob (v := .ref cs.BadKind) rfl T.g_BadKind rfl) pa_nil))))),
    (rds_ret (rd_is (.own _) (rd_var (i := 0)))), ?_⟩
  rintro ss n P ⟨rfl, p⟩
  walk_at "dl"
  exact ⟨trivial, true, T.i_BadKind, p⟩

abbrev s_law_no_column : Stmt := topS 67
theorem sc_law_no_column : FnScope ["caught"] ["caught"] (defScope s_law_no_column) := ⟨rfl, rfl, rfl, by decide +kernel, rfl, by decide +kernel, by decide +kernel⟩
theorem ok_law_no_column (T : Txt K mg cs tk0) (D : DefAt K mg "_law_no_column" s_law_no_column ["caught"]) : Has P w K mg base CX0 1 "_law_no_column" ["caught"] (sp0 K TT (ds_law_no_column cs)) := by
  obtain ⟨f, fd, F, hm, hk, hb⟩ := D
  refine ⟨f, fd, F.okD sc_law_no_column (len_law_no_column cs) (fun S cdv A outer s H E hr => ?_), hm, hk, hb⟩
  refine ⟨_, _, (pss_one (ps_ret (pe_callB call_isD (by rfl) T.n_isinstance (by decide +kernel) (pa_cons (pv 0) (pa_cons (pe_glob (v := .ref cs.BadColumn) rfl T.g_BadColumn rfl) pa_nil))))),
    (rds_ret (rd_is (.own _) (rd_var (i := 0)))), ?_⟩
  rintro ss n P ⟨rfl, p⟩
  walk_at "dl"
  exact ⟨trivial, true, T.i_BadColumn, p⟩

abbrev s_law_no_room : Stmt := topS 68
theorem sc_law_no_room : FnScope ["caught"] ["caught"] (defScope s_law_no_room) := ⟨rfl, rfl, rfl, by decide +kernel, rfl, by decide +kernel, by decide +kernel⟩
theorem ok_law_no_room (T : Txt K mg cs tk0) (D : DefAt K mg "_law_no_room" s_law_no_room ["caught"]) : Has P w K mg base CX0 1 "_law_no_room" ["caught"] (sp0 K TT (ds_law_no_room cs)) := by
  obtain ⟨f, fd, F, hm, hk, hb⟩ := D
  refine ⟨f, fd, F.okD sc_law_no_room (len_law_no_room cs) (fun S cdv A outer s H E hr => ?_), hm, hk, hb⟩
  refine ⟨_, _, (pss_one (ps_ret (pe_callB call_isD (by rfl) T.n_isinstance (by decide +kernel) (pa_cons (pv 0) (pa_cons (pe_glob (v := .ref cs.TooMany) rfl T.g_TooMany rfl) pa_nil))))),
    (rds_ret (rd_is (.own _) (rd_var (i := 0)))), ?_⟩
  rintro ss n P ⟨d, rfl, p⟩
  walk_at "dl"
  exact ⟨trivial, true, T.i_TooMany, p⟩

abbrev s_law_bad_number : Stmt := topS 50
theorem sc_law_bad_number : FnScope ["state", "size_here"] ["state", "size_here"] (defScope s_law_bad_number) := ⟨rfl, rfl, rfl, by decide +kernel, rfl, by decide +kernel, by decide +kernel⟩
theorem ok_law_bad_number (T : Txt K mg cs tk0) (D : DefAt K mg "_law_bad_number" s_law_bad_number ["state", "size_here"]) (c_law_pick : Has P w K mg base CX0 2 "_law_pick" ["state", "several"] (sp0 K TT ds_law_pick)) : Has P w K mg base CX0 3 "_law_bad_number" ["state", "size_here"] (sp0 K TT ds_law_bad_number) := by
  obtain ⟨f, fd, F, hm, hk, hb⟩ := D
  obtain ⟨_, _, c_law_pick_ok, c_law_pick_m, c_law_pick_k, c_law_pick_b⟩ := c_law_pick
  refine ⟨f, fd, F.okD sc_law_bad_number (len_law_bad_number) (fun S cdv A outer s H E hr => ?_), hm, hk, hb⟩
  refine ⟨_, _, (pss_one (ps_ret (pe_call c_law_pick_ok (hr.mono (by decide)) rfl c_law_pick_m c_law_pick_k c_law_pick_b .nil pass0 (pa_cons (pv 0) (pa_cons (pe_lst (pa_cons (pe_un un_neg pe_int) (pa_cons (pv 1) (pa_cons pe_non (pa_cons pe_bl (pa_cons pe_str (pa_cons (pe_tup (pa_cons pe_int pa_nil)) pa_nil))))))) pa_nil))))),
    (rds_ret (rd_call0 (E := E0) (rda_st (i := 0) (rda_cons (rd_lst (rda_cons (rd_un o1_neg rd_int) (rda_cons (rd_var (i := 1)) (rda_cons rd_non (rda_cons rd_bl (rda_cons rd_str (rda_cons (rd_tup (rda_cons rd_int rda_nil)) rda_nil))))))) rda_nil)))), ?_⟩
  rintro ss n P ⟨k, rfl, hn, p⟩
  walk_at "dl"
  refine ⟨_, .inr rfl, by simp, by simp, hn, fun x hx n' h => ?_⟩
  have z : nx x = true ∧ betw 0 (k - 1) x = false := by
    revert x
    simp [nx, nxs, betw]
    try omega
  exact p _ _ h z.1 z.2

abbrev s_with_cell : Stmt := topS 33
theorem sc_with_cell : FnScope ["cells", "index", "cell"] ["cells", "index", "cell"] (defScope s_with_cell) := ⟨rfl, rfl, rfl, by decide +kernel, rfl, by decide +kernel, by decide +kernel⟩
theorem ok_with_cell (T : Txt K mg cs tk0) (D : DefAt K mg "_with_cell" s_with_cell ["cells", "index", "cell"]) : Has P w K mg base CX0 1 "_with_cell" ["cells", "index", "cell"] (sp0 K TT ds_with_cell) := by
  obtain ⟨f, fd, F, hm, hk, hb⟩ := D
  refine ⟨f, fd, F.okD sc_with_cell (len_with_cell) (fun S cdv A outer s H E hr => ?_), hm, hk, hb⟩
  refine ⟨_, _, (pss_one (ps_ret (pe_op op_addU (pe_op op_addU (pe_slice sl_U (pv 0) po_none (po_some (pv 1))) (pe_tup (pa_cons (pv 2) pa_nil))) (pe_slice sl_U (pv 0) (po_some (pe_op op_addU (pv 1) pe_int)) po_none)))),
    (rds_ret (rd_op o2_add (rd_op o2_add (rd_sl (rd_var (i := 0)) rdo_none (rdo_some (rd_var (i := 1)))) (rd_tup (rda_cons (rd_var (i := 2)) rda_nil))) (rd_sl (rd_var (i := 0)) (rdo_some (rd_op o2_add (rd_var (i := 1)) rd_int)) rdo_none))), ?_⟩
  rintro ss n P ⟨xs, i, d, rfl, hi, hl, p⟩
  walk_at "dl"
  rw [cut_to, cut_from1]
  rw [← put_set hi] at p
  exact ⟨by simp; omega, by simp; omega, p⟩

abbrev s_check_valley : Stmt := topS 29
theorem sc_check_valley : FnScope ["table", "valley"] ["table", "valley"] (defScope s_check_valley) := ⟨rfl, rfl, rfl, by decide +kernel, rfl, by decide +kernel, by decide +kernel⟩
theorem ok_check_valley (T : Txt K mg cs tk0) (D : DefAt K mg "check_valley" s_check_valley ["table", "valley"]) (c_is_between : Has P w K mg base CX0 2 "is_between" ["thing", "low", "high"] (sp0 K TT ds_is_between)) : Has P w K mg base (L2.CX P w) 3 "check_valley" ["table", "valley"] (spX K TT (ds_check_valley cs)) := by
  obtain ⟨f, fd, F, hm, hk, hb⟩ := D
  obtain ⟨_, _, c_is_between_ok, c_is_between_m, c_is_between_k, c_is_between_b⟩ := c_is_between
  refine ⟨f, fd, F.okXD sc_check_valley (len_check_valley cs) (fun S cdv A outer s H E hr => ?_), hm, hk, hb⟩
  have tk := takes_of (X := cxOf (L2.CX P w) P w K mg base ["table", "valley"] "check_valley" (defScope s_check_valley) f cdv A outer s H E) (E := E) rfl rfl rfl rfl
  refine ⟨_, _, (pss_one (ps_if (pt_not (pt_val (pe_call c_is_between_ok (hr.mono (by decide)) rfl c_is_between_m c_is_between_k c_is_between_b .nil pass0 (pa_cons (pv 1) (pa_cons pe_int (pa_cons (pe_op op_sub (pe_callB call_lenU (by rfl) T.n_len (by decide +kernel) (pa_cons (pe_fld (pv 0) rfl) pa_nil)) pe_int) pa_nil)))))) (pss_one (ps_raise (W := fun cls d _ H => E cls d H) rfl tk (pmk_own PySem.F.excBase_ValueError T.x_BadValley T.g_BadValley T.e_BadValley (raises_own T.b_BadValley T.t_BadValley) rfl))) pss_nil)),
    (rds_if (rdt_not (rdt_B (rd_call0 (E := E0) (rda_cons (rd_var (i := 1)) (rda_cons rd_int (rda_cons (rd_op o2_sub (rd_cb cal_len (rda_cons (rd_fld (rd_var (i := 0))) rda_nil)) rd_int) rda_nil)))))) rds_raise rds_next), ?_⟩
  rintro ss n P XP ⟨ks, rs, v, rfl, hv, h1, h2⟩
  walk_at "dl"
  refine ⟨T.na_Table_rows, _, fld_r, v, 0, _, rfl, bare_of hv, ?_⟩
  cases e : betw 0 ((rs.length : Int) - 1) v with
  | true => exact h1 e
  | false => exact h2 e

abbrev s_check_matter : Stmt := topS 28
theorem sc_check_matter : FnScope ["table", "matter"] ["table", "matter"] (defScope s_check_matter) := ⟨rfl, rfl, rfl, by decide +kernel, rfl, by decide +kernel, by decide +kernel⟩
theorem ok_check_matter (T : Txt K mg cs tk0) (D : DefAt K mg "check_matter" s_check_matter ["table", "matter"]) (c_is_between : Has P w K mg base CX0 2 "is_between" ["thing", "low", "high"] (sp0 K TT ds_is_between)) : Has P w K mg base (L2.CX P w) 3 "check_matter" ["table", "matter"] (spX K TT (ds_check_matter cs)) := by
  obtain ⟨f, fd, F, hm, hk, hb⟩ := D
  obtain ⟨_, _, c_is_between_ok, c_is_between_m, c_is_between_k, c_is_between_b⟩ := c_is_between
  refine ⟨f, fd, F.okXD sc_check_matter (len_check_matter cs) (fun S cdv A outer s H E hr => ?_), hm, hk, hb⟩
  have tk := takes_of (X := cxOf (L2.CX P w) P w K mg base ["table", "matter"] "check_matter" (defScope s_check_matter) f cdv A outer s H E) (E := E) rfl rfl rfl rfl
  refine ⟨_, _, (pss_one (ps_if (pt_not (pt_val (pe_call c_is_between_ok (hr.mono (by decide)) rfl c_is_between_m c_is_between_k c_is_between_b .nil pass0 (pa_cons (pv 1) (pa_cons pe_int (pa_cons (pe_op op_sub (pe_callB call_lenU (by rfl) T.n_len (by decide +kernel) (pa_cons (pe_fld (pv 0) rfl) pa_nil)) pe_int) pa_nil)))))) (pss_one (ps_raise (W := fun cls d _ H => E cls d H) rfl tk (pmk_own PySem.F.excBase_ValueError T.x_BadMatter T.g_BadMatter T.e_BadMatter (raises_own T.b_BadMatter T.t_BadMatter) rfl))) pss_nil)),
    (rds_if (rdt_not (rdt_B (rd_call0 (E := E0) (rda_cons (rd_var (i := 1)) (rda_cons rd_int (rda_cons (rd_op o2_sub (rd_cb cal_len (rda_cons (rd_fld (rd_var (i := 0))) rda_nil)) rd_int) rda_nil)))))) rds_raise rds_next), ?_⟩
  rintro ss n P XP ⟨ks, rs, v, rfl, hv, h1, h2⟩
  walk_at "dl"
  refine ⟨T.na_Table_kinds, _, fld_k, v, 0, _, rfl, bare_of hv, ?_⟩
  cases e : betw 0 ((ks.length : Int) - 1) v with
  | true => exact h1 e
  | false => exact h2 e

theorem sc_with_row : FnScope ["table", "row"] ["table", "row"] (defScope s_with_row) := ⟨rfl, rfl, rfl, by decide +kernel, rfl, by decide +kernel, by decide +kernel⟩
theorem ok_with_row (T : Txt K mg cs tk0) (D : DefAt K mg "with_row" s_with_row ["table", "row"]) (c_is_row : Has P w K mg base (L2.CX P w) 5 "is_row" ["table", "thing"] (spX K TT (ds_is_row cs))) (x_TooMany : HasX1 P w K mg base cs.TooMany "most") (c_Table : HasI P w K mg base 6 cs.Table "kinds" "rows" (spI K TT cs.Table (ds_Table_init cs))) : HasF P w K mg base (L2.CX P w) 8 "with_row" s_with_row ["table", "row"] (spX K TT (ds_with_row cs)) := by
  obtain ⟨f, fd, F, hm, hk, hb⟩ := D
  obtain ⟨_, _, c_is_row_ok, c_is_row_m, c_is_row_k, c_is_row_b⟩ := c_is_row
  obtain ⟨_, _, _, _, x_TooMany_o, x_TooMany_n, x_TooMany_i, x_TooMany_t, x_TooMany_f, x_TooMany_b⟩ := x_TooMany
  obtain ⟨_, _, c_Table_ok, c_Table_mk, c_Table_b, c_Table_kb⟩ := c_Table
  refine ⟨f, fd, F.okXD sc_with_row (len_with_row cs) (fun S cdv A outer s H E hr => ?_), hm, hk, hb, F⟩
  have tk := takes_of (X := cxOf (L2.CX P w) P w K mg base ["table", "row"] "with_row" (defScope s_with_row) f cdv A outer s H E) (E := E) rfl rfl rfl rfl
  refine ⟨_, _, (pss_cons (ps_if (pt_not (pt_val (pe_call c_is_row_ok (hr.mono (by decide)) rfl c_is_row_m c_is_row_k c_is_row_b .nil (passes_call tk (fun _ _ _ _ h => h)) (pa_cons (pv 0) (pa_cons (pv 1) pa_nil))))) (pss_one (ps_raise (W := fun cls d _ H => E cls d H) rfl tk (pmk_own PySem.F.excBase_ValueError T.x_BadRow T.g_BadRow T.e_BadRow (raises_own T.b_BadRow T.t_BadRow) rfl))) pss_nil)
      (pss_cons (ps_if (pt_cmpR (op_eqU hr.units) (pe_callB call_lenU (by rfl) T.n_len (by decide +kernel) (pa_cons (pe_fld (pv 0) rfl) pa_nil)) (pe_glob (v := .int 12) rfl T.k_MOST_VALLEYS.2 ⟨_, rfl⟩) (nomark _)) (pss_one (ps_raise (W := fun cls d _ H => E cls d H) rfl tk (pmk_oex x_TooMany_o x_TooMany_i x_TooMany_t x_TooMany_f (hr.mono (by decide)) x_TooMany_b .nil pass0 rfl T.g_TooMany (pa_cons (pe_glob (v := .int 12) rfl T.k_MOST_VALLEYS.2 ⟨_, rfl⟩) pa_nil)))) pss_nil)
      (pss_one (ps_ret (pe_make c_Table_mk c_Table_ok (hr.mono (by decide)) rfl T.g_Table c_Table_b .nil (passes_call tk (fun _ _ _ _ h => h)) (pa_cons (pe_fld (pv 0) rfl) (pa_cons (pe_op op_addU (pe_fld (pv 0) rfl) (pe_tup (pa_cons (pv 1) pa_nil))) pa_nil))))))),
    (rds_seq (rds_if (rdt_not (rdt_B (rd_callX (rda_cons (rd_var (i := 0)) (rda_cons (rd_var (i := 1)) rda_nil))))) rds_raise rds_next)
      (rds_seq (rds_if (rdt_test (rd_op o2_eq (rd_cb cal_len (rda_cons (rd_fld (rd_var (i := 0))) rda_nil)) rd_int)) (rds_raise1 x_TooMany_o x_TooMany_n (rda_cons rd_int rda_nil)) rds_next)
      (rds_ret (rd_make (rda_cons (rd_fld (rd_var (i := 0))) (rda_cons (rd_op o2_add (rd_fld (rd_var (i := 0))) (rd_tup (rda_cons (rd_var (i := 1)) rda_nil))) rda_nil)))))), ?_⟩
  rintro ss n P XP ⟨t, d, rfl, hx, h⟩
  walk_at "dl"
  rcases h with ⟨ks, rs, rfl, g1, g2, h1, h2⟩ | ⟨h1, h2, h3⟩
  · have g1' := g1
    simp only [kindsB, Bool.and_eq_true, decide_eq_true_eq] at g1'
    have g2' := g2
    simp only [rowsB, Bool.and_eq_true, decide_eq_true_eq, List.all_eq_true] at g2'
    refine ⟨_, _, rfl, .inl ⟨ks, rs, rfl, hx, g1, ?_⟩⟩
    cases e : rowB ks d with
    | false => exact h1 e
    | true =>
      obtain ⟨h3, h4⟩ := h2 e
      refine ⟨T.na_Table_rows, _, fld_r, ?_⟩
      walk_at "dl"
      by_cases h12 : rs.length = 12
      · rw [show decide ((rs.length : Int) = 12) = true from decide_eq_true (by omega)]
        exact ⟨_, rfl, h3 h12⟩
      · rw [show decide ((rs.length : Int) = 12) = false from decide_eq_false (by omega)]
        have gr := row_good g2 e h12
        exact ⟨T.na_Table_kinds, _, fld_k, T.na_Table_rows, _, fld_r, by simp; omega, T.ic_Table, _, _, rfl, kinds_nx g1, rows_nx gr, (fun z => by rw [g1] at z; cases z), (fun _ z => by have z : rowsB ks (.tup (rs ++ [d])) = false := z; rw [gr] at z; cases z), fun _ _ => h4 h12⟩
  · exact ⟨_, _, rfl, .inr ⟨h1, h2, h3⟩⟩

abbrev s_is_column : Stmt := topS 37
theorem sc_is_column : FnScope ["many", "kind", "thing", "cell"] ["many", "kind", "thing"] (defScope s_is_column) := ⟨rfl, rfl, rfl, by decide +kernel, rfl, by decide +kernel, by decide +kernel⟩
theorem ok_is_column (T : Txt K mg cs tk0) (D : DefAt K mg "_is_column" s_is_column ["many", "kind", "thing"]) (c_is_cell : Has P w K mg base CX0 3 "is_cell" ["kind", "thing"] (sp0 K TT ds_is_cell)) : Has P w K mg base CX0 4 "_is_column" ["many", "kind", "thing"] (sp0 K TT ds_is_column) := by
  obtain ⟨f, fd, F, hm, hk, hb⟩ := D
  obtain ⟨_, _, c_is_cell_ok, c_is_cell_m, c_is_cell_k, c_is_cell_b⟩ := c_is_cell
  refine ⟨f, fd, F.okD sc_is_column (len_is_column) (fun S cdv A outer s H E hr => ?_), hm, hk, hb⟩
  refine ⟨_, _, (pss_cons (ps_if (PW.pt (pw_or (pt_not (pt_val (pe_callB call_isD (by rfl) T.n_isinstance (by decide +kernel) (pa_cons (pv 2) (pa_cons (pe_bltn rfl T.n_tuple (by decide +kernel) (v := .ty "tuple") rfl) pa_nil))))) (pw_or1 (pt_cmpR (op_neU hr.units) (pe_callB call_lenU (by rfl) T.n_len (by decide +kernel) (pa_cons (pv 2) pa_nil)) (pv 0) (nomark _))))) (pss_one (ps_ret pe_bl)) pss_nil)
      (pss_one (ps_ret (pe_and (pe_callB (cr_all rfl) (by rfl) T.n_all (by decide +kernel) (pa_cons (pe_lc (own := [("cell", 3)]) (g := gName 3) rfl sc_is_column.nd (pi_tup (pv 2)) (blkOk_by (N := ["many", "kind", "thing", "cell"]) (own := [("cell", 3)]) (sc := defScope s_is_column) (by decide +kernel)) (fun _ _ _ _ _ => (pg_name (i := 3) sc_is_column.nd rfl (by first | exact Or.inl rfl | exact Or.inr rfl))) (fun _ _ _ _ _ => pts_nil) (fun _ _ _ _ _ => (pe_call c_is_cell_ok (hr.mono (by decide)) rfl c_is_cell_m c_is_cell_k c_is_cell_b .nil pass0 (pa_cons (pv 1) (pa_cons (pv 3) pa_nil))))) pa_nil)) (pe_one (pe_callB (cr_any rfl) (by rfl) T.n_any (by decide +kernel) (pa_cons (pe_lc (own := [("cell", 3)]) (g := gName 3) rfl sc_is_column.nd (pi_tup (pv 2)) (blkOk_by (N := ["many", "kind", "thing", "cell"]) (own := [("cell", 3)]) (sc := defScope s_is_column) (by decide +kernel)) (fun _ _ _ _ _ => (pg_name (i := 3) sc_is_column.nd rfl (by first | exact Or.inl rfl | exact Or.inr rfl))) (fun _ _ _ _ _ => pts_nil) (fun _ _ _ _ _ => (pe_cmpR op_notN (pv 3) pe_non (nomark _)))) pa_nil))))))),
    (rds_seq (rds_if (rdt_or (rdt_not (rdt_B (rd_isT (by decide) (rd_var (i := 2))))) (rdt_test (rd_op o2_ne (rd_cb cal_len (rda_cons (rd_var (i := 2)) rda_nil)) (rd_var (i := 0))))) (rds_ret rd_bl) rds_next)
      (rds_ret (rd_andV (rd_cb cal_all (rda_cons (rd_lc (rdj_of (rdi_tup (rd_var (i := 2)))) (rdg_name (vs := [3]) (by decide)) rdt_yes (rd_call0 (E := E0) (rda_cons (rd_var (i := 1)) (rda_cons (rd_var (i := 3)) rda_nil)))) rda_nil)) (rd_cb cal_any (rda_cons (rd_lc (rdj_of (rdi_tup (rd_var (i := 2)))) (rdg_name (vs := [3]) (by decide)) rdt_yes (rd_op o2_notN (rd_var (i := 3)) rd_non)) rda_nil))))), ?_⟩
  rintro ss n P ⟨m, k, d, rfl, hx, hm, p⟩
  walk_at "dl"
  refine ⟨bare_of hx, ?_⟩
  cases d with
  | tup cs =>
    have hx' : nxs cs = true := hx
    walk_at "dl"
    simp only [colB] at p
    by_cases h1 : cs.length = m
    · rw [show decide ((cs.length : Int) = (m : Int)) = true from decide_eq_true (by omega), Bool.not_true]
      rw [decide_eq_true h1, Bool.true_and] at p
      refine ⟨by omega, compM_map (f := fun x => .bl (cellB (.int k) x)) (fun x hx2 n2 k2 q => ⟨k, x, rfl, bare_of (nxs_mem hx' hx2), q⟩) (allD_map ?_)⟩
      cases e : cs.all (cellB (.int k)) with
      | false =>
        rw [e] at p
        exact p
      | true =>
        rw [e, Bool.true_and] at p
        refine ⟨by omega, compM_map (f := fun x => .bl (!DL.isNon x)) (fun x hx2 n2 k2 q => q) ?_⟩
        refine ⟨_, blsD_map, ?_⟩
        rw [List.any_map]
        exact p
    · rw [show decide ((cs.length : Int) = (m : Int)) = false from decide_eq_false (by omega), Bool.not_false]
      rw [decide_eq_false h1] at p
      exact p
  | _ => exact p

abbrev s_law_is_column : Stmt := topS 64
theorem sc_law_is_column : FnScope ["size_here", "many", "thing", "item"] ["size_here", "many", "thing"] (defScope s_law_is_column) := ⟨rfl, rfl, rfl, by decide +kernel, rfl, by decide +kernel, by decide +kernel⟩
theorem ok_law_is_column (T : Txt K mg cs tk0) (D : DefAt K mg "_law_is_column" s_law_is_column ["size_here", "many", "thing"]) (c_law_is_row : Has P w K mg base CX0 3 "_law_is_row" ["kinds_here", "thing"] (sp0 K TT ds_law_is_row)) : Has P w K mg base CX0 4 "_law_is_column" ["size_here", "many", "thing"] (sp0 K TT ds_law_is_column) := by
  obtain ⟨f, fd, F, hm, hk, hb⟩ := D
  obtain ⟨_, _, c_law_is_row_ok, c_law_is_row_m, c_law_is_row_k, c_law_is_row_b⟩ := c_law_is_row
  refine ⟨f, fd, F.okD sc_law_is_column (len_law_is_column) (fun S cdv A outer s H E hr => ?_), hm, hk, hb⟩
  refine ⟨_, _, (pss_one (ps_ret (pe_and (pe_call c_law_is_row_ok (hr.mono (by decide)) rfl c_law_is_row_m c_law_is_row_k c_law_is_row_b .nil pass0 (pa_cons (pe_op op_mul1 (pe_tup (pa_cons (pv 0) pa_nil)) (pv 1)) (pa_cons (pv 2) pa_nil))) (pe_one (pe_cmpR (op_neNil hr.units) (pe_lc (own := [("item", 3)]) (g := gName 3) rfl sc_law_is_column.nd (pi_tup (pv 2)) (blkOk_by (N := ["size_here", "many", "thing", "item"]) (own := [("item", 3)]) (sc := defScope s_law_is_column) (by decide +kernel)) (fun _ _ _ _ _ => (pg_name (i := 3) sc_law_is_column.nd rfl (by first | exact Or.inl rfl | exact Or.inr rfl))) (fun _ _ _ _ _ => (pts_one (pt_cmpR op_notN (pv 3) pe_non (nomark _)))) (fun _ _ _ _ _ => pe_int)) (pe_lst pa_nil) (nomark _)))))),
    (rds_ret (rd_andV (rd_call0 (E := E0) (rda_cons (rd_op o2_mul1 (rd_tup (rda_cons (rd_var (i := 0)) rda_nil)) (rd_var (i := 1))) (rda_cons (rd_var (i := 2)) rda_nil))) (rd_op o2_neNil (rd_lc (rdj_of (rdi_tup (rd_var (i := 2)))) (rdg_name (vs := [3]) (by decide)) (rdt_test (rd_op o2_notN (rd_var (i := 3)) rd_non)) rd_int) (rd_lst rda_nil)))), ?_⟩
  rintro ss n P ⟨m, k, d, rfl, hx, hm, hm2, hk, hk2, p⟩
  walk_at "dl"
  have tail : ∀ (Q : DQ), (Q (.bl (rowB (List.replicate m (D.int k)) d)) n) → ds_law_is_row [.d (.tup (List.replicate m (D.int k))), .d d] n Q := fun Q q => ⟨_, d, rfl, hx, by rw [List.length_replicate]; omega, rep_kinds hk hk2, q⟩
  by_cases h1 : m = 1
  · have hr1 : [D.int k] = List.replicate m (D.int k) := by rw [h1]; rfl
    refine .inl ⟨by omega, ?_⟩
    rw [hr1]
    refine tail _ ?_
    cases d with
    | tup cs =>
      rw [row_rep]
      simp only [colB] at p
      cases e : (decide (cs.length = m) && cs.all (cellB (.int k))) with
      | false =>
        rw [e] at p
        exact p
      | true =>
        rw [e, Bool.true_and] at p
        have hl : cs.length = m := by
          rw [Bool.and_eq_true, decide_eq_true_eq] at e
          exact e.1
        refine ⟨by omega, compM_filter (f := fun x => if !DL.isNon x then some (.int 1) else none) (fun x hx2 n2 k2 q => ?_) ?_⟩
        · cases e2 : DL.isNon x <;> simp only [e2] at q ⊢ <;> simpa using q
        · have e9 : (cs.filterMap fun x => if !DL.isNon x then some (D.int 1) else none) = ones (fun x => !DL.isNon x) cs := rfl
          rw [e9, ones_nil]
          have e8 : (!(cs.all fun x => !!DL.isNon x)) = cs.any fun c => !DL.isNon c := by
            rw [List.not_all_eq_any_not]
            simp
          rw [e8]
          exact p
    | _ => exact p
  · refine .inr ⟨by simp, by omega, by omega, ?_⟩
    rw [Int.toNat_natCast, rep_flat]
    refine tail _ ?_
    cases d with
    | tup cs =>
      rw [row_rep]
      simp only [colB] at p
      cases e : (decide (cs.length = m) && cs.all (cellB (.int k))) with
      | false =>
        rw [e] at p
        exact p
      | true =>
        rw [e, Bool.true_and] at p
        have hl : cs.length = m := by
          rw [Bool.and_eq_true, decide_eq_true_eq] at e
          exact e.1
        refine ⟨by omega, compM_filter (f := fun x => if !DL.isNon x then some (.int 1) else none) (fun x hx2 n2 k2 q => ?_) ?_⟩
        · cases e2 : DL.isNon x <;> simp only [e2] at q ⊢ <;> simpa using q
        · have e9 : (cs.filterMap fun x => if !DL.isNon x then some (D.int 1) else none) = ones (fun x => !DL.isNon x) cs := rfl
          rw [e9, ones_nil]
          have e8 : (!(cs.all fun x => !!DL.isNon x)) = cs.any fun c => !DL.isNon c := by
            rw [List.not_all_eq_any_not]
            simp
          rw [e8]
          exact p
    | _ => exact p

theorem sc_with_matter : FnScope ["table", "kind", "column", "rows", "row", "cell"] ["table", "kind", "column"] (defScope s_with_matter) := ⟨rfl, rfl, rfl, by decide +kernel, rfl, by decide +kernel, by decide +kernel⟩
theorem ok_with_matter (T : Txt K mg cs tk0) (D : DefAt K mg "with_matter" s_with_matter ["table", "kind", "column"]) (c_check_table : Has P w K mg base (L2.CX P w) 1 "check_table" ["table"] (spX K TT (ds_check_table cs))) (c_is_kind : Has P w K mg base CX0 3 "is_kind" ["thing"] (sp0 K TT ds_is_kind)) (c_is_column : Has P w K mg base CX0 4 "_is_column" ["many", "kind", "thing"] (sp0 K TT ds_is_column)) (x_TooMany : HasX1 P w K mg base cs.TooMany "most") (c_Table : HasI P w K mg base 6 cs.Table "kinds" "rows" (spI K TT cs.Table (ds_Table_init cs))) : HasF P w K mg base (L2.CX P w) 8 "with_matter" s_with_matter ["table", "kind", "column"] (spX K TT (ds_with_matter cs)) := by
  obtain ⟨f, fd, F, hm, hk, hb⟩ := D
  obtain ⟨_, _, c_check_table_ok, c_check_table_m, c_check_table_k, c_check_table_b⟩ := c_check_table
  obtain ⟨_, _, c_is_kind_ok, c_is_kind_m, c_is_kind_k, c_is_kind_b⟩ := c_is_kind
  obtain ⟨_, _, c_is_column_ok, c_is_column_m, c_is_column_k, c_is_column_b⟩ := c_is_column
  obtain ⟨_, _, _, _, x_TooMany_o, x_TooMany_n, x_TooMany_i, x_TooMany_t, x_TooMany_f, x_TooMany_b⟩ := x_TooMany
  obtain ⟨_, _, c_Table_ok, c_Table_mk, c_Table_b, c_Table_kb⟩ := c_Table
  refine ⟨f, fd, F.okXD sc_with_matter (len_with_matter cs) (fun S cdv A outer s H E hr => ?_), hm, hk, hb, F⟩
  have tk := takes_of (X := cxOf (L2.CX P w) P w K mg base ["table", "kind", "column", "rows", "row", "cell"] "with_matter" (defScope s_with_matter) f cdv A outer s H E) (E := E) rfl rfl rfl rfl
  refine ⟨_, _, (pss_cons (ps_expr (pe_call c_check_table_ok (hr.mono (by decide)) rfl c_check_table_m c_check_table_k c_check_table_b .nil (passes_call tk (fun _ _ _ _ h => h)) (pa_cons (pv 0) pa_nil)))
      (pss_cons (ps_if (pt_not (pt_val (pe_call c_is_kind_ok (hr.mono (by decide)) rfl c_is_kind_m c_is_kind_k c_is_kind_b .nil pass0 (pa_cons (pv 1) pa_nil)))) (pss_one (ps_raise (W := fun cls d _ H => E cls d H) rfl tk (pmk_own PySem.F.excBase_ValueError T.x_BadKind T.g_BadKind T.e_BadKind (raises_own T.b_BadKind T.t_BadKind) rfl))) pss_nil)
      (pss_cons (ps_if (pt_not (pt_val (pe_call c_is_column_ok (hr.mono (by decide)) rfl c_is_column_m c_is_column_k c_is_column_b .nil pass0 (pa_cons (pe_callB call_lenU (by rfl) T.n_len (by decide +kernel) (pa_cons (pe_fld (pv 0) rfl) pa_nil)) (pa_cons (pv 1) (pa_cons (pv 2) pa_nil)))))) (pss_one (ps_raise (W := fun cls d _ H => E cls d H) rfl tk (pmk_own PySem.F.excBase_ValueError T.x_BadColumn T.g_BadColumn T.e_BadColumn (raises_own T.b_BadColumn T.t_BadColumn) rfl))) pss_nil)
      (pss_cons (ps_if (pt_cmpR (op_eqU hr.units) (pe_callB call_lenU (by rfl) T.n_len (by decide +kernel) (pa_cons (pe_fld (pv 0) rfl) pa_nil)) (pe_glob (v := .int 8) rfl T.k_MOST_MATTERS.2 ⟨_, rfl⟩) (nomark _)) (pss_one (ps_raise (W := fun cls d _ H => E cls d H) rfl tk (pmk_oex x_TooMany_o x_TooMany_i x_TooMany_t x_TooMany_f (hr.mono (by decide)) x_TooMany_b .nil pass0 rfl T.g_TooMany (pa_cons (pe_glob (v := .int 8) rfl T.k_MOST_MATTERS.2 ⟨_, rfl⟩) pa_nil)))) pss_nil)
      (pss_cons (ps_set (i := 3) sc_with_matter.nd rfl (by first | exact Or.inl rfl | exact Or.inr rfl) (pe_callTy call_tupU (by rfl) T.n_tuple (by decide +kernel) (pa_cons (pe_lc (own := [("row", 4), ("cell", 5)]) (g := gTup _ 2 (gCons (gName 4) (gCons (gName 5) gNil))) rfl sc_with_matter.nd (RZ.pi_zipA (by rfl) T.n_zip (pa_cons (pe_fld (pv 0) rfl) (pa_cons (pv 2) pa_nil))) (blkOk_by (N := ["table", "kind", "column", "rows", "row", "cell"]) (own := [("row", 4), ("cell", 5)]) (sc := defScope s_with_matter) (by decide +kernel)) (fun _ _ _ _ _ => (pg_tup rfl (pgs_cons (pg_name (i := 4) sc_with_matter.nd rfl (by first | exact Or.inl rfl | exact Or.inr rfl)) (pgs_cons (pg_name (i := 5) sc_with_matter.nd rfl (by first | exact Or.inl rfl | exact Or.inr rfl)) pgs_nil)))) (fun _ _ _ _ _ => pts_nil) (fun _ _ _ _ _ => (pe_op op_addU (pv 4) (pe_tup (pa_cons (pv 5) pa_nil))))) pa_nil)))
      (pss_one (ps_ret (pe_make c_Table_mk c_Table_ok (hr.mono (by decide)) rfl T.g_Table c_Table_b .nil (passes_call tk (fun _ _ _ _ h => h)) (pa_cons (pe_op op_addU (pe_fld (pv 0) rfl) (pe_tup (pa_cons (pv 1) pa_nil))) (pa_cons (pv 3) pa_nil)))))))))),
    (rds_seq (rds_drop (rd_callX (rda_cons (rd_var (i := 0)) rda_nil)))
      (rds_seq (rds_if (rdt_not (rdt_B (rd_call0 (E := E0) (rda_cons (rd_var (i := 1)) rda_nil)))) rds_raise rds_next)
      (rds_seq (rds_if (rdt_not (rdt_B (rd_call0 (E := E0) (rda_cons (rd_cb cal_len (rda_cons (rd_fld (rd_var (i := 0))) rda_nil)) (rda_cons (rd_var (i := 1)) (rda_cons (rd_var (i := 2)) rda_nil)))))) rds_raise rds_next)
      (rds_seq (rds_if (rdt_test (rd_op o2_eq (rd_cb cal_len (rda_cons (rd_fld (rd_var (i := 0))) rda_nil)) rd_int)) (rds_raise1 x_TooMany_o x_TooMany_n (rda_cons rd_int rda_nil)) rds_next)
      (rds_seq (rds_set (rd_cb cal_tuple (rda_cons (rd_lc (rdj_of (rdi_zip (rda_cons (rd_fld (rd_var (i := 0))) (rda_cons (rd_var (i := 2)) rda_nil)))) (rdg_two (vs := [4, 5]) (by decide) (by decide)) rdt_yes (rd_op o2_add (rd_var (i := 4)) (rd_tup (rda_cons (rd_var (i := 5)) rda_nil)))) rda_nil)))
      (rds_ret (rd_make (rda_cons (rd_op o2_add (rd_fld (rd_var (i := 0))) (rd_tup (rda_cons (rd_var (i := 1)) rda_nil))) (rda_cons (rd_var (i := 3)) rda_nil))))))))), ?_⟩
  rintro ss n P XP ⟨t, k, d, rfl, hk, hx, h⟩
  walk_at "dl"
  refine ⟨_, rfl, ?_⟩
  rcases h with ⟨ks, rs, rfl, g1, g2, h1, h2⟩ | h
  · have g1' := g1
    simp only [kindsB, Bool.and_eq_true, decide_eq_true_eq] at g1'
    have g2' := g2
    simp only [rowsB, Bool.and_eq_true, decide_eq_true_eq, List.all_eq_true] at g2'
    refine .inl ⟨ks, rs, rfl, k, rfl, bare_of hk, ?_⟩
    cases e : betw 1 6 k with
    | false => exact h1 e
    | true =>
      obtain ⟨e3, _⟩ := betw_int e
      obtain ⟨h2, h3⟩ := h2 e
      refine ⟨T.na_Table_rows, _, fld_r, rs.length, toI k, d, by rw [← e3], hx, by omega, ?_⟩
      rw [← e3]
      cases e4 : colB rs.length k d with
      | false => exact h2 e4
      | true =>
        cases d with
        | tup cs' =>
          obtain ⟨h5, h6⟩ := h3 cs' rfl e4
          refine ⟨T.na_Table_kinds, _, fld_k, ?_⟩
          walk_at "dl"
          by_cases h8 : ks.length = 8
          · rw [show decide ((ks.length : Int) = 8) = true from decide_eq_true (by omega)]
            exact ⟨_, rfl, h5 h8⟩
          · rw [show decide ((ks.length : Int) = 8) = false from decide_eq_false (by omega)]
            obtain ⟨k1, k2⟩ := col_good g1 g2 e e4 h8
            have e5 := e4
            simp only [colB, Bool.and_eq_true, decide_eq_true_eq] at e5
            refine ⟨T.na_Table_rows, _, fld_r, ?_⟩
            refine ⟨by rw [zipD_len]; omega, compM_map (f := joinP) (fun x hx2 n2 k3 q => ?_) ?_⟩
            · obtain ⟨p, hp, rfl⟩ := List.mem_map.mp hx2
              obtain ⟨c, ec, hcl, _⟩ := rowB_inv (g2'.1.2 p.1 (List.of_mem_zip hp).1)
              rw [ec] at q ⊢
              exact ⟨by simp; omega, q⟩
            · rw [zip_add e5.1.1 fun r hr2 => by obtain ⟨c, ec, _⟩ := rowB_inv (g2'.1.2 r hr2); exact ⟨c, ec⟩]
              exact ⟨T.na_Table_kinds, _, fld_k, by simp; omega, T.ic_Table, _, _, rfl, kinds_nx k1, rows_nx k2, (fun z => by rw [k1] at z; cases z), (fun _ z => by have z : rowsB (ks ++ [k]) (.tup (addCol rs cs')) = false := z; rw [k2] at z; cases z), fun _ _ => h6 h8⟩
        | _ => simp [colB] at e4
  · exact .inr h

theorem sc_read : FnScope ["table", "valley", "matter", "custom", "row"] ["table", "valley", "matter", "custom"] (defScope s_read) := ⟨rfl, rfl, rfl, by decide +kernel, rfl, by decide +kernel, by decide +kernel⟩
theorem ok_read (T : Txt K mg cs tk0) (D : DefAt K mg "read" s_read ["table", "valley", "matter", "custom"]) (c_check_table : Has P w K mg base (L2.CX P w) 1 "check_table" ["table"] (spX K TT (ds_check_table cs))) (c_check_valley : Has P w K mg base (L2.CX P w) 3 "check_valley" ["table", "valley"] (spX K TT (ds_check_valley cs))) (c_check_matter : Has P w K mg base (L2.CX P w) 3 "check_matter" ["table", "matter"] (spX K TT (ds_check_matter cs))) (c_is_cell : Has P w K mg base CX0 3 "is_cell" ["kind", "thing"] (sp0 K TT ds_is_cell)) (c_with_cell : Has P w K mg base CX0 1 "_with_cell" ["cells", "index", "cell"] (sp0 K TT ds_with_cell)) (c_with_rows : Has P w K mg base (L2.CX P w) 8 "_with_rows" ["table", "rows"] (spX K TT (ds_with_rows cs))) : HasF P w K mg base (L2.CX P w) 9 "read" s_read ["table", "valley", "matter", "custom"] (spX K TT (ds_read cs)) := by
  obtain ⟨f, fd, F, hm, hk, hb⟩ := D
  obtain ⟨_, _, c_check_table_ok, c_check_table_m, c_check_table_k, c_check_table_b⟩ := c_check_table
  obtain ⟨_, _, c_check_valley_ok, c_check_valley_m, c_check_valley_k, c_check_valley_b⟩ := c_check_valley
  obtain ⟨_, _, c_check_matter_ok, c_check_matter_m, c_check_matter_k, c_check_matter_b⟩ := c_check_matter
  obtain ⟨_, _, c_is_cell_ok, c_is_cell_m, c_is_cell_k, c_is_cell_b⟩ := c_is_cell
  obtain ⟨_, _, c_with_cell_ok, c_with_cell_m, c_with_cell_k, c_with_cell_b⟩ := c_with_cell
  obtain ⟨_, _, c_with_rows_ok, c_with_rows_m, c_with_rows_k, c_with_rows_b⟩ := c_with_rows
  refine ⟨f, fd, F.okXD sc_read (len_read cs) (fun S cdv A outer s H E hr => ?_), hm, hk, hb, F⟩
  have tk := takes_of (X := cxOf (L2.CX P w) P w K mg base ["table", "valley", "matter", "custom", "row"] "read" (defScope s_read) f cdv A outer s H E) (E := E) rfl rfl rfl rfl
  refine ⟨_, _, (pss_cons (ps_expr (pe_call c_check_table_ok (hr.mono (by decide)) rfl c_check_table_m c_check_table_k c_check_table_b .nil (passes_call tk (fun _ _ _ _ h => h)) (pa_cons (pv 0) pa_nil)))
      (pss_cons (ps_expr (pe_call c_check_valley_ok (hr.mono (by decide)) rfl c_check_valley_m c_check_valley_k c_check_valley_b .nil (passes_call tk (fun _ _ _ _ h => h)) (pa_cons (pv 0) (pa_cons (pv 1) pa_nil))))
      (pss_cons (ps_expr (pe_call c_check_matter_ok (hr.mono (by decide)) rfl c_check_matter_m c_check_matter_k c_check_matter_b .nil (passes_call tk (fun _ _ _ _ h => h)) (pa_cons (pv 0) (pa_cons (pv 2) pa_nil))))
      (pss_cons (ps_if (pt_not (pt_val (pe_call c_is_cell_ok (hr.mono (by decide)) rfl c_is_cell_m c_is_cell_k c_is_cell_b .nil pass0 (pa_cons (pe_ix ix_seq (pe_fld (pv 0) rfl) (pv 2) (fun _ _ => rfl)) (pa_cons (pv 3) pa_nil))))) (pss_one (ps_raise (W := fun cls d _ H => E cls d H) rfl tk (pmk_own PySem.F.excBase_ValueError T.x_BadCustom T.g_BadCustom T.e_BadCustom (raises_own T.b_BadCustom T.t_BadCustom) rfl))) pss_nil)
      (pss_cons (ps_set (i := 4) sc_read.nd rfl (by first | exact Or.inl rfl | exact Or.inr rfl) (pe_call c_with_cell_ok (hr.mono (by decide)) rfl c_with_cell_m c_with_cell_k c_with_cell_b .nil pass0 (pa_cons (pe_ix ix_seq (pe_fld (pv 0) rfl) (pv 1) (fun _ _ => rfl)) (pa_cons (pv 2) (pa_cons (pv 3) pa_nil)))))
      (pss_one (ps_ret (pe_call c_with_rows_ok (hr.mono (by decide)) rfl c_with_rows_m c_with_rows_k c_with_rows_b .nil (passes_call tk (fun _ _ _ _ h => h)) (pa_cons (pv 0) (pa_cons (pe_call c_with_cell_ok (hr.mono (by decide)) rfl c_with_cell_m c_with_cell_k c_with_cell_b .nil pass0 (pa_cons (pe_fld (pv 0) rfl) (pa_cons (pv 1) (pa_cons (pv 4) pa_nil)))) pa_nil)))))))))),
    (rds_seq (rds_drop (rd_callX (rda_cons (rd_var (i := 0)) rda_nil)))
      (rds_seq (rds_drop (rd_callX (rda_cons (rd_var (i := 0)) (rda_cons (rd_var (i := 1)) rda_nil))))
      (rds_seq (rds_drop (rd_callX (rda_cons (rd_var (i := 0)) (rda_cons (rd_var (i := 2)) rda_nil))))
      (rds_seq (rds_if (rdt_not (rdt_B (rd_call0 (E := E0) (rda_cons (rd_op o2_ix (rd_fld (rd_var (i := 0))) (rd_var (i := 2))) (rda_cons (rd_var (i := 3)) rda_nil))))) rds_raise rds_next)
      (rds_seq (rds_set (rd_call0 (E := E0) (rda_cons (rd_op o2_ix (rd_fld (rd_var (i := 0))) (rd_var (i := 1))) (rda_cons (rd_var (i := 2)) (rda_cons (rd_var (i := 3)) rda_nil)))))
      (rds_ret (rd_callX (rda_cons (rd_var (i := 0)) (rda_cons (rd_call0 (E := E0) (rda_cons (rd_fld (rd_var (i := 0))) (rda_cons (rd_var (i := 1)) (rda_cons (rd_var (i := 4)) rda_nil)))) rda_nil))))))))), ?_⟩
  rintro ss n P XP ⟨t, v, m, c, rfl, hv, hm, hc, h⟩
  walk_at "dl"
  refine ⟨_, rfl, ?_⟩
  rcases h with ⟨ks, rs, rfl, g1, g2, h1, h2⟩ | h
  · have g1' := g1
    simp only [kindsB, Bool.and_eq_true, decide_eq_true_eq, List.all_eq_true] at g1'
    have g2' := g2
    simp only [rowsB, Bool.and_eq_true, decide_eq_true_eq, List.all_eq_true] at g2'
    refine .inl ⟨ks, rs, rfl, ks, rs, v, rfl, hv, fun e1 => ?_, h1⟩
    obtain ⟨h3, h4⟩ := h2 e1
    refine ⟨ks, rs, m, rfl, hm, fun e2 => ?_, h3⟩
    obtain ⟨f1, a1, a2⟩ := betw_int e1
    obtain ⟨f2, b1, b2⟩ := betw_int e2
    obtain ⟨i, ei⟩ := Int.eq_ofNat_of_zero_le a1
    obtain ⟨j, ej⟩ := Int.eq_ofNat_of_zero_le b1
    rw [ei] at f1 a2
    rw [ej] at f2 b2
    subst f1 f2
    have hi : i < rs.length := by omega
    have hj : j < ks.length := by omega
    have ek : ks[j]? = some ks[j] := List.getElem?_eq_getElem hj
    obtain ⟨k3, _⟩ := betw_int (g1'.2 ks[j] (List.getElem_mem hj))
    rw [k3] at ek
    obtain ⟨h5, h6⟩ := h4 i j _ rfl rfl hi ek
    refine ⟨T.na_Table_kinds, _, fld_k, _, at_nat ek, _, c, rfl, bare_of hc, ?_⟩
    cases e3 : cellB (.int (toI ks[j])) c with
    | false => exact h5 e3
    | true =>
      obtain ⟨h7, h8⟩ := h6 e3
      have er : rs[i]? = some rs[i] := List.getElem?_eq_getElem hi
      obtain ⟨cs', ec, hcl, _⟩ := rowB_inv (g2'.1.2 rs[i] (List.getElem_mem hi))
      refine ⟨T.na_Table_rows, _, fld_r, _, at_nat er, ?_⟩
      rw [ec]
      have e9 := putC_eq (j := j) (c := c) hi ec
      refine ⟨cs', j, c, rfl, by omega, by omega, T.na_Table_rows, _, fld_r, rs, i, _, rfl, hi, by omega, ?_⟩
      rw [← e9]
      exact ⟨ks, rs, _, rfl, g1, putC_rows g2'.1.2 hi ek e3, by rw [putC_len]; omega, by rw [putC_len]; omega, h7, h8⟩
  · exact .inr h

abbrev s_law_with_row : Stmt := topS 62
theorem sc_law_with_row : FnScope ["scope", "row"] ["scope", "row"] (defScope s_law_with_row) := ⟨rfl, rfl, rfl, by decide +kernel, rfl, by decide +kernel, by decide +kernel⟩
theorem ok_law_with_row (T : Txt K mg cs tk0) (D : DefAt K mg "_law_with_row" s_law_with_row ["scope", "row"]) : Has P w K mg base CX0 1 "_law_with_row" ["scope", "row"] (sp0 K TT ds_law_with_row) := by
  obtain ⟨f, fd, F, hm, hk, hb⟩ := D
  refine ⟨f, fd, F.okD sc_law_with_row (len_law_with_row) (fun S cdv A outer s H E hr => ?_), hm, hk, hb⟩
  refine ⟨_, _, (pss_one (ps_ret (pe_disp (pps_cons pe_str (pe_dget (hu_of hr) (pv 0) pe_str (fun _ _ => rfl)) (pps_cons pe_str (pe_op op_addU (pe_dget (hu_of hr) (pv 0) pe_str (fun _ _ => rfl)) (pe_tup (pa_cons (pv 1) pa_nil))) pps_nil)) (by rfl) (by rfl) (fun z => by cases z) (by decide)))),
    (rds_ret (rd_disp (.cons rd_str (rd_dget (rd_var (i := 0)) rd_str) (.cons rd_str (rd_op o2_add (rd_dget (rd_var (i := 0)) rd_str) (rd_tup (rda_cons (rd_var (i := 1)) rda_nil))) .nil)))), ?_⟩
  rintro ss n P ⟨ks, rs, d, rfl, hl, p⟩
  walk_at "dl"
  exact ⟨_, vd_k, _, vd_r, by simp; omega, kr_nodup, p⟩

abbrev s_law_with_matter : Stmt := topS 63
theorem sc_law_with_matter : FnScope ["scope", "size_here", "column_here", "rows_here", "row", "item"] ["scope", "size_here", "column_here"] (defScope s_law_with_matter) := ⟨rfl, rfl, rfl, by decide +kernel, rfl, by decide +kernel, by decide +kernel⟩
theorem ok_law_with_matter (T : Txt K mg cs tk0) (D : DefAt K mg "_law_with_matter" s_law_with_matter ["scope", "size_here", "column_here"]) : Has P w K mg base CX0 1 "_law_with_matter" ["scope", "size_here", "column_here"] (sp0 K TT ds_law_with_matter) := by
  obtain ⟨f, fd, F, hm, hk, hb⟩ := D
  refine ⟨f, fd, F.okD sc_law_with_matter (len_law_with_matter) (fun S cdv A outer s H E hr => ?_), hm, hk, hb⟩
  refine ⟨_, _, (pss_cons (ps_set (i := 3) sc_law_with_matter.nd rfl (by first | exact Or.inl rfl | exact Or.inr rfl) (pe_callTy call_tupU (by rfl) T.n_tuple (by decide +kernel) (pa_cons (pe_lc (own := [("row", 4), ("item", 5)]) (g := gTup _ 2 (gCons (gName 4) (gCons (gName 5) gNil))) rfl sc_law_with_matter.nd (RZ.pi_zipA (by rfl) T.n_zip (pa_cons (pe_dget (hu_of hr) (pv 0) pe_str (fun _ _ => rfl)) (pa_cons (pv 2) pa_nil))) (blkOk_by (N := ["scope", "size_here", "column_here", "rows_here", "row", "item"]) (own := [("row", 4), ("item", 5)]) (sc := defScope s_law_with_matter) (by decide +kernel)) (fun _ _ _ _ _ => (pg_tup rfl (pgs_cons (pg_name (i := 4) sc_law_with_matter.nd rfl (by first | exact Or.inl rfl | exact Or.inr rfl)) (pgs_cons (pg_name (i := 5) sc_law_with_matter.nd rfl (by first | exact Or.inl rfl | exact Or.inr rfl)) pgs_nil)))) (fun _ _ _ _ _ => pts_nil) (fun _ _ _ _ _ => (pe_op op_addU (pv 4) (pe_tup (pa_cons (pv 5) pa_nil))))) pa_nil)))
      (pss_one (ps_ret (pe_disp (pps_cons pe_str (pe_op op_addU (pe_dget (hu_of hr) (pv 0) pe_str (fun _ _ => rfl)) (pe_tup (pa_cons (pv 1) pa_nil))) (pps_cons pe_str (pv 3) pps_nil)) (by rfl) (by rfl) (fun z => by cases z) (by decide))))),
    (rds_seq (rds_set (rd_cb cal_tuple (rda_cons (rd_lc (rdj_of (rdi_zip (rda_cons (rd_dget (rd_var (i := 0)) rd_str) (rda_cons (rd_var (i := 2)) rda_nil)))) (rdg_two (vs := [4, 5]) (by decide) (by decide)) rdt_yes (rd_op o2_add (rd_var (i := 4)) (rd_tup (rda_cons (rd_var (i := 5)) rda_nil)))) rda_nil)))
      (rds_ret (rd_disp (.cons rd_str (rd_op o2_add (rd_dget (rd_var (i := 0)) rd_str) (rd_tup (rda_cons (rd_var (i := 1)) rda_nil))) (.cons rd_str (rd_var (i := 3)) .nil))))), ?_⟩
  rintro ss n P ⟨ks, rs, k, cs', rfl, g1, g2, hl, p⟩
  walk_at "dl"
  have g1' := g1
  simp only [kindsB, Bool.and_eq_true, decide_eq_true_eq] at g1'
  have g2' := g2
  simp only [rowsB, Bool.and_eq_true, decide_eq_true_eq, List.all_eq_true] at g2'
  refine ⟨_, vd_r, by rw [zipD_len]; omega, compM_map (f := joinP) (fun x hx2 n2 k3 q => ?_) ?_⟩
  · obtain ⟨p, hp, rfl⟩ := List.mem_map.mp hx2
    obtain ⟨c, ec, hcl, _⟩ := rowB_inv (g2'.1.2 p.1 (List.of_mem_zip hp).1)
    rw [ec] at q ⊢
    exact ⟨by simp; omega, q⟩
  · rw [zip_add hl fun r hr2 => by obtain ⟨c, ec, _⟩ := rowB_inv (g2'.1.2 r hr2); exact ⟨c, ec⟩]
    exact ⟨_, vd_k, by simp; omega, kr_nodup, p⟩

abbrev s_law_with_cell : Stmt := topS 61
theorem sc_law_with_cell : FnScope ["scope", "at", "spot", "item"] ["scope", "at", "spot", "item"] (defScope s_law_with_cell) := ⟨rfl, rfl, rfl, by decide +kernel, rfl, by decide +kernel, by decide +kernel⟩
theorem ok_law_with_cell (T : Txt K mg cs tk0) (D : DefAt K mg "_law_with_cell" s_law_with_cell ["scope", "at", "spot", "item"]) (c_law_put : Has P w K mg base CX0 1 "_law_put" ["row", "spot", "item"] (sp0 K TT ds_law_put)) : Has P w K mg base CX0 2 "_law_with_cell" ["scope", "at", "spot", "item"] (sp0 K TT ds_law_with_cell) := by
  obtain ⟨f, fd, F, hm, hk, hb⟩ := D
  obtain ⟨_, _, c_law_put_ok, c_law_put_m, c_law_put_k, c_law_put_b⟩ := c_law_put
  refine ⟨f, fd, F.okD sc_law_with_cell (len_law_with_cell) (fun S cdv A outer s H E hr => ?_), hm, hk, hb⟩
  refine ⟨_, _, (pss_one (ps_ret (pe_disp (pps_cons pe_str (pe_dget (hu_of hr) (pv 0) pe_str (fun _ _ => rfl)) (pps_cons pe_str (pe_call c_law_put_ok (hr.mono (by decide)) rfl c_law_put_m c_law_put_k c_law_put_b .nil pass0 (pa_cons (pe_dget (hu_of hr) (pv 0) pe_str (fun _ _ => rfl)) (pa_cons (pv 1) (pa_cons (pe_call c_law_put_ok (hr.mono (by decide)) rfl c_law_put_m c_law_put_k c_law_put_b .nil pass0 (pa_cons (pe_ix ix_seq (pe_dget (hu_of hr) (pv 0) pe_str (fun _ _ => rfl)) (pv 1) (fun _ _ => rfl)) (pa_cons (pv 2) (pa_cons (pv 3) pa_nil)))) pa_nil)))) pps_nil)) (by rfl) (by rfl) (fun z => by cases z) (by decide)))),
    (rds_ret (rd_disp (.cons rd_str (rd_dget (rd_var (i := 0)) rd_str) (.cons rd_str (rd_call0 (E := E0) (rda_cons (rd_dget (rd_var (i := 0)) rd_str) (rda_cons (rd_var (i := 1)) (rda_cons (rd_call0 (E := E0) (rda_cons (rd_op o2_ix (rd_dget (rd_var (i := 0)) rd_str) (rd_var (i := 1))) (rda_cons (rd_var (i := 2)) (rda_cons (rd_var (i := 3)) rda_nil)))) rda_nil)))) .nil)))), ?_⟩
  rintro ss n P ⟨ks, rs, i, j, c, rfl, g1, g2, hi, hj, p⟩
  walk_at "dl"
  have g1' := g1
  simp only [kindsB, Bool.and_eq_true, decide_eq_true_eq] at g1'
  have g2' := g2
  simp only [rowsB, Bool.and_eq_true, decide_eq_true_eq, List.all_eq_true] at g2'
  have e : rs[i]? = some rs[i] := List.getElem?_eq_getElem hi
  obtain ⟨cs', ec, hcl, _⟩ := rowB_inv (g2'.1.2 rs[i] (List.getElem_mem hi))
  refine ⟨_, vd_k, _, vd_r, _, vd_r, _, at_nat e, ?_⟩
  rw [ec]
  refine ⟨cs', j, c, rfl, by omega, by omega, rs, i, _, rfl, hi, by omega, kr_nodup, ?_⟩
  rw [put_set hi, put_set (by omega)]
  have e2 : putC rs i j c = rs.set i (.tup (cs'.set j c)) := by
    unfold putC
    rw [List.getD_eq_getElem?_getD, e, ec]
    rfl
  rw [← e2]
  exact p

abbrev s_law_lonely : Stmt := topS 70
theorem sc_law_lonely : FnScope ["state", "scope", "rows_here", "at", "spot", "row"] ["state", "scope"] (defScope s_law_lonely) := ⟨rfl, rfl, rfl, by decide +kernel, rfl, by decide +kernel, by decide +kernel⟩
theorem ok_law_lonely (T : Txt K mg cs tk0) (D : DefAt K mg "_law_lonely" s_law_lonely ["state", "scope"]) (c_law_draw : Has P w K mg base CX0 1 "_law_draw" ["state", "size_here"] (sp0 K TT ds_law_draw)) (c_law_put : Has P w K mg base CX0 1 "_law_put" ["row", "spot", "item"] (sp0 K TT ds_law_put)) : Has P w K mg base CX0 2 "_law_lonely" ["state", "scope"] (sp0 K TT ds_law_lonely) := by
  obtain ⟨f, fd, F, hm, hk, hb⟩ := D
  obtain ⟨_, _, c_law_draw_ok, c_law_draw_m, c_law_draw_k, c_law_draw_b⟩ := c_law_draw
  obtain ⟨_, _, c_law_put_ok, c_law_put_m, c_law_put_k, c_law_put_b⟩ := c_law_put
  refine ⟨f, fd, F.okD sc_law_lonely (len_law_lonely) (fun S cdv A outer s H E hr => ?_), hm, hk, hb⟩
  refine ⟨_, _, (pss_cons (ps_asg (pe_tup (pa_cons (pe_call c_law_draw_ok (hr.mono (by decide)) rfl c_law_draw_m c_law_draw_k c_law_draw_b .nil pass0 (pa_cons (pv 0) (pa_cons (pe_callB call_lenU (by rfl) T.n_len (by decide +kernel) (pa_cons (pe_dget (hu_of hr) (pv 1) pe_str (fun _ _ => rfl)) pa_nil)) pa_nil))) (pa_cons (pe_call c_law_draw_ok (hr.mono (by decide)) rfl c_law_draw_m c_law_draw_k c_law_draw_b .nil pass0 (pa_cons (pv 0) (pa_cons (pe_callB call_lenU (by rfl) T.n_len (by decide +kernel) (pa_cons (pe_dget (hu_of hr) (pv 1) pe_str (fun _ _ => rfl)) pa_nil)) pa_nil))) pa_nil))) (pg_tup rfl (pgs_cons (pg_name (i := 3) sc_law_lonely.nd rfl (by first | exact Or.inl rfl | exact Or.inr rfl)) (pgs_cons (pg_name (i := 4) sc_law_lonely.nd rfl (by first | exact Or.inl rfl | exact Or.inr rfl)) pgs_nil))))
      (pss_cons (ps_setLc (i := 2) (own := [("row", 5)]) (g := gName 5) rfl sc_law_lonely.nd rfl rfl (sw_true rfl rfl rfl (by decide +kernel)) (pi_tup (pe_dget (hu_of hr) (pv 1) pe_str (fun _ _ => rfl))) (blkOk_by (N := ["state", "scope", "rows_here", "at", "spot", "row"]) (own := [("row", 5)]) (sc := defScope s_law_lonely) (by decide +kernel)) (fun _ _ _ _ _ => (pg_name (i := 5) sc_law_lonely.nd rfl (by first | exact Or.inl rfl | exact Or.inr rfl))) (fun _ _ _ _ _ => pts_nil) (fun _ _ _ _ _ => (pe_call c_law_put_ok (hr.mono (by decide)) rfl c_law_put_m c_law_put_k c_law_put_b .nil pass0 (pa_cons (pv 5) (pa_cons (pv 4) (pa_cons pe_non pa_nil))))))
      (pss_cons (ps_asg (pe_call c_law_put_ok (hr.mono (by decide)) rfl c_law_put_m c_law_put_k c_law_put_b .nil pass0 (pa_cons (pe_ix ix_seq (pv 2) (pv 3) (fun _ _ => rfl)) (pa_cons (pv 4) (pa_cons (pe_call c_law_draw_ok (hr.mono (by decide)) rfl c_law_draw_m c_law_draw_k c_law_draw_b .nil pass0 (pa_cons (pv 0) (pa_cons (pe_ix ix_seq (pe_dget (hu_of hr) (pv 1) pe_str (fun _ _ => rfl)) (pv 4) (fun _ _ => rfl)) pa_nil))) pa_nil)))) (pg_sub (pv 2) (pv 3) set_list))
      (pss_one (ps_ret (pe_tup (pa_cons (pe_disp (pps_cons pe_str (pe_dget (hu_of hr) (pv 1) pe_str (fun _ _ => rfl)) (pps_cons pe_str (pe_callTy call_tupU (by rfl) T.n_tuple (by decide +kernel) (pa_cons (pv 2) pa_nil)) pps_nil)) (by rfl) (by rfl) (fun z => by cases z) (by decide)) (pa_cons (pv 3) (pa_cons (pv 4) pa_nil))))))))),
    (rds_seq (rds_asgG (rd_tup (rda_cons (rd_call0 (E := E0) (rda_st (i := 0) (rda_cons (rd_cb cal_len (rda_cons (rd_dget (rd_var (i := 1)) rd_str) rda_nil)) rda_nil))) (rda_cons (rd_call0 (E := E0) (rda_st (i := 0) (rda_cons (rd_cb cal_len (rda_cons (rd_dget (rd_var (i := 1)) rd_str) rda_nil)) rda_nil))) rda_nil))) (rdg_two (vs := [3, 4]) (by decide) (by decide)))
      (rds_seq (rds_setO (rdn_lc (rdj_of (rdi_tup (rd_dget (rd_var (i := 1)) rd_str))) (rdg_name (vs := [5]) (by decide)) rdt_yes (rd_call0 (E := E0) (rda_cons (rd_var (i := 5)) (rda_cons (rd_var (i := 4)) (rda_cons rd_non rda_nil))))))
      (rds_seq (rds_putO (i := 2) (rd_call0 (E := E0) (rda_cons (rd_ixO (i := 2) (rd_var (i := 3))) (rda_cons (rd_var (i := 4)) (rda_cons (rd_call0 (E := E0) (rda_st (i := 0) (rda_cons (rd_op o2_ix (rd_dget (rd_var (i := 1)) rd_str) (rd_var (i := 4))) rda_nil))) rda_nil)))) (rd_var (i := 3)))
      (rds_ret (rd_tup (rda_cons (rd_disp (.cons rd_str (rd_dget (rd_var (i := 1)) rd_str) (.cons rd_str (rd_tupO (i := 2)) .nil))) (rda_cons (rd_var (i := 3)) (rda_cons (rd_var (i := 4)) rda_nil)))))))), ?_⟩
  rintro ss n P ⟨ks, rs, rfl, g1, g2, hn, p⟩
  walk_at "dl"
  have hn' : n + 3 < 1099511627776 := hn
  have g1' := g1
  simp only [kindsB, Bool.and_eq_true, decide_eq_true_eq, List.all_eq_true] at g1'
  have g2' := g2
  simp only [rowsB, Bool.and_eq_true, decide_eq_true_eq, List.all_eq_true] at g2'
  refine ⟨_, vd_r, _, rfl, by omega, by omega, lim (by omega), fun a n1 a0 a1 h1 => ⟨_, vd_k, _, rfl, by omega, by omega, lim (by omega), fun b n2 b0 b1 h2 => ?_⟩⟩
  obtain ⟨i, rfl⟩ := Int.eq_ofNat_of_zero_le a0
  obtain ⟨j, rfl⟩ := Int.eq_ofNat_of_zero_le b0
  have hi : i < rs.length := by omega
  have hj : j < ks.length := by omega
  have ek : ks[j]? = some ks[j] := List.getElem?_eq_getElem hj
  obtain ⟨k3, kl, kh⟩ := betw_int (g1'.2 ks[j] (List.getElem_mem hj))
  rw [k3] at ek
  have er : rs[i]? = some rs[i] := List.getElem?_eq_getElem hi
  obtain ⟨cs', ec, hcl, _⟩ := rowB_inv (g2'.1.2 rs[i] (List.getElem_mem hi))
  refine ⟨_, vd_r, by omega, compM_map (f := clrD j) (fun x hx n3 k q => ?_) ?_⟩
  · obtain ⟨c2, rfl, hc2, _⟩ := rowB_inv (g2'.1.2 x hx)
    refine ⟨c2, j, .non, rfl, by omega, by omega, ?_⟩
    rw [put_set (by omega)]
    exact q
  · have eL : (rs.map (clrD j))[i]? = some (.tup (cs'.set j .non)) := by
      rw [List.getElem?_map, er, ec]
      rfl
    refine ⟨_, at_nat eL, _, vd_k, _, at_nat ek, _, rfl, by omega, by omega, lim (by omega), fun v n3 v0 v1 h3 => ⟨_, j, _, rfl, by simp; omega, by simp; omega, i, ix_nat (by simpa using hi), _, vd_k, kr_nodup, ?_⟩⟩
    rw [put_set (by simp; omega), List.set_set]
    exact p _ i j _ (by omega) (lonely_good g2 hi ek ec (by simp [cellB]; omega) rfl) (by simpa using hi) hj

abbrev s_law_filled : Stmt := topS 69
theorem sc_law_filled : FnScope ["state", "scope", "kinds_here", "rows_here", "way", "row"] ["state", "scope"] (defScope s_law_filled) := ⟨rfl, rfl, rfl, by decide +kernel, rfl, by decide +kernel, by decide +kernel⟩
theorem ok_law_filled (T : Txt K mg cs tk0) (D : DefAt K mg "_law_filled" s_law_filled ["state", "scope"]) (c_law_draw : Has P w K mg base CX0 1 "_law_draw" ["state", "size_here"] (sp0 K TT ds_law_draw)) : Has P w K mg base CX0 2 "_law_filled" ["state", "scope"] (sp0 K TT ds_law_filled) := by
  obtain ⟨f, fd, F, hm, hk, hb⟩ := D
  obtain ⟨_, _, c_law_draw_ok, c_law_draw_m, c_law_draw_k, c_law_draw_b⟩ := c_law_draw
  refine ⟨f, fd, F.okD sc_law_filled (len_law_filled) (fun S cdv A outer s H E hr => ?_), hm, hk, hb⟩
  refine ⟨_, _, (pss_cons (ps_par3 (i := 2) (j := 3) (l := 4) rfl sc_law_filled.nd rfl rfl rfl (by decide) (by decide) (by decide) rfl rfl rfl (pa_cons (pe_dget (hu_of hr) (pv 1) pe_str (fun _ _ => rfl)) (pa_cons (pe_dget (hu_of hr) (pv 1) pe_str (fun _ _ => rfl)) (pa_cons (pe_call c_law_draw_ok (hr.mono (by decide)) rfl c_law_draw_m c_law_draw_k c_law_draw_b .nil pass0 (pa_cons (pv 0) (pa_cons pe_int pa_nil))) pa_nil))) (by rfl))
      (pss_cons (ps_if (pt_cmpR op_in_seq (pv 4) (pe_tup (pa_cons pe_int (pa_cons pe_int pa_nil))) (by with_unfolding_all rfl)) (pss_one (ps_set (i := 3) sc_law_filled.nd rfl (by first | exact Or.inl rfl | exact Or.inr rfl) (pe_slice sl_U (pe_op op_mulU (pv 3) pe_int) po_none (po_some pe_int)))) pss_nil)
      (pss_cons (ps_if (pt_cmpR op_in_seq (pv 4) (pe_tup (pa_cons pe_int (pa_cons pe_int pa_nil))) (by with_unfolding_all rfl)) (pss_one (ps_par (i := 2) (j := 3) rfl sc_law_filled.nd rfl rfl (by decide) rfl rfl (pa_cons (pe_slice sl_U (pe_op op_mulU (pv 2) pe_int) po_none (po_some pe_int)) (pa_cons (pe_callTy call_tupU (by rfl) T.n_tuple (by decide +kernel) (pa_cons (pe_lc (own := [("row", 5)]) (g := gName 5) rfl sc_law_filled.nd (pi_tup (pv 3)) (blkOk_by (N := ["state", "scope", "kinds_here", "rows_here", "way", "row"]) (own := [("row", 5)]) (sc := defScope s_law_filled) (by decide +kernel)) (fun _ _ _ _ _ => (pg_name (i := 5) sc_law_filled.nd rfl (by first | exact Or.inl rfl | exact Or.inr rfl))) (fun _ _ _ _ _ => pts_nil) (fun _ _ _ _ _ => (pe_slice sl_U (pe_op op_mulU (pv 5) pe_int) po_none (po_some pe_int)))) pa_nil)) pa_nil)) (by rfl))) pss_nil)
      (pss_one (ps_ret (pe_disp (pps_cons pe_str (pv 2) (pps_cons pe_str (pv 3) pps_nil)) (by rfl) (by rfl) (fun z => by cases z) (by decide))))))),
    (rds_seq (rds_par3 (i := 2) (j := 3) (l := 4) (rda_cons (rd_dget (rd_var (i := 1)) rd_str) (rda_cons (rd_dget (rd_var (i := 1)) rd_str) (rda_cons (rd_call0 (E := E0) (rda_st (i := 0) (rda_cons rd_int rda_nil))) rda_nil))))
      (rds_seq (rds_if (rdt_test (rd_op o2_in (rd_var (i := 4)) (rd_tup (rda_cons rd_int (rda_cons rd_int rda_nil))))) (rds_set (rd_sl (rd_op o2_mul (rd_var (i := 3)) rd_int) rdo_none (rdo_some rd_int))) rds_next)
      (rds_seq (rds_if (rdt_test (rd_op o2_in (rd_var (i := 4)) (rd_tup (rda_cons rd_int (rda_cons rd_int rda_nil))))) (rds_par (i := 2) (j := 3) (rda_cons (rd_sl (rd_op o2_mul (rd_var (i := 2)) rd_int) rdo_none (rdo_some rd_int)) (rda_cons (rd_cb cal_tuple (rda_cons (rd_lc (rdj_of (rdi_tup (rd_var (i := 3)))) (rdg_name (vs := [5]) (by decide)) rdt_yes (rd_sl (rd_op o2_mul (rd_var (i := 5)) rd_int) rdo_none (rdo_some rd_int))) rda_nil)) rda_nil))) rds_next)
      (rds_ret (rd_disp (.cons rd_str (rd_var (i := 2)) (.cons rd_str (rd_var (i := 3)) .nil))))))), ?_⟩
  rintro ss n P ⟨ks, rs, rfl, g1, g2, hn, p⟩
  walk_at "dl"
  have hn' : n + 1 < 1099511627776 := hn
  have g1' := g1
  simp only [kindsB, Bool.and_eq_true, decide_eq_true_eq] at g1'
  have g2' := g2
  simp only [rowsB, Bool.and_eq_true, decide_eq_true_eq, List.all_eq_true] at g2'
  have hks : ks ≠ [] := by
    intro z
    rw [z] at g1'
    simp at g1'
  have hrs : rs ≠ [] := by
    intro z
    rw [z] at g2'
    simp at g2'
  have cols : ∀ (qs : List D) (Q : List D → Nat → Prop) (n1 : Nat), (∀ r ∈ qs, rowB ks r = true) → Q (qs.map tileR) n1 → compM (fun x n2 k => match x, D.int 8, fun d => match d, none, some 8, fun d => k (some d) n2 with
      | D.lst xs, lo, hi, k => k (D.lst (cutD xs lo hi))
      | D.tup xs, lo, hi, k => k (D.tup (cutD xs lo hi))
      | D.str z, lo, hi, k => z.length ≤ 100000 ∧ k (D.str (cutS z lo hi))
      | x, x_2, x_3, x_4 => False with
      | D.int i, D.int j, k => (-2 ^ 64 < i ∧ i < 2 ^ 64 ∨ -2 ^ 64 < j ∧ j < 2 ^ 64) ∧ k (D.int (i * j))
      | D.tup xs, D.int j, k => xs ≠ [] ∧ 2 ≤ j ∧ j ≤ 1000 ∧ xs.length ≤ 1000 ∧ k (D.tup (List.replicate j.toNat xs).flatten)
      | x, x_2, x_3 => False) qs n1 Q := fun qs Q n1 hq q => by
    refine compM_map (f := tileR) (fun x hx n2 k q => ?_) q
    obtain ⟨cs', rfl, hcl, _⟩ := rowB_inv (hq x hx)
    refine ⟨?_, by decide, by decide, by omega, ?_⟩
    · intro z
      rw [z] at hcl
      simp at hcl
      omega
    · show k (some (.tup (cutD _ none (some 8)))) n2
      rw [t8]
      exact q
  refine ⟨_, vd_k, _, vd_r, _, rfl, by decide, by decide, lim (by omega), fun v n1 v0 v1 h1 => ⟨v, [0, 2], rfl, rfl, ?_⟩⟩
  cases e1 : [0, 2].any (· == v) with
  | true =>
    have gr := tile_rows g2
    refine ⟨hrs, by decide, by decide, by omega, v, [1, 2], rfl, rfl, ?_⟩
    cases e2 : [1, 2].any (· == v) with
    | true =>
      refine ⟨hks, by decide, by decide, by omega, ?_⟩
      rw [t12]
      show _ ∧ _
      refine ⟨by rw [tile_len g2'.1.1.1]; decide, cols _ _ _ (fun r hr => g2'.1.2 r (tile_mem hr)) ⟨kr_nodup, ?_⟩⟩
      rw [t8]
      exact p _ _ _ (by omega) (tile_cols g1 gr).1 (tile_cols g1 gr).2
    | false =>
      rw [t12]
      exact ⟨kr_nodup, p _ _ _ (by omega) g1 gr⟩
  | false =>
    refine ⟨v, [1, 2], rfl, rfl, ?_⟩
    cases e2 : [1, 2].any (· == v) with
    | true =>
      refine ⟨hks, by decide, by decide, by omega, ?_⟩
      show _ ∧ _
      refine ⟨by omega, cols _ _ _ g2'.1.2 ⟨kr_nodup, ?_⟩⟩
      rw [t8]
      exact p _ _ _ (by omega) (tile_cols g1 g2).1 (tile_cols g1 g2).2
    | false => exact ⟨kr_nodup, p _ _ _ (by omega) g1 g2⟩

abbrev s_law_row_right : Stmt := topS 72
theorem sc_law_row_right : FnScope ["state", "scope", "thing", "caught", "table_here", "row"] ["state", "scope"] (defScope s_law_row_right) := ⟨rfl, rfl, rfl, by decide +kernel, rfl, by decide +kernel, by decide +kernel⟩
theorem ok_law_row_right {c9 : Addr} (T : Txt K mg cs tk0) (D : DefC K mg "_law_row_right" s_law_row_right ["state", "scope"] c9) (c_law_pick : Has P w K mg base CX0 2 "_law_pick" ["state", "several"] (sp0 K TT ds_law_pick)) (c_law_made : Has P w K mg base CX0 8 "_law_made" ["scope"] (sp0 K TT (ds_law_made cs))) (c_law_draw : Has P w K mg base CX0 1 "_law_draw" ["state", "size_here"] (sp0 K TT ds_law_draw)) (c_law_spoilt_row : Has P w K mg base CX0 3 "_law_spoilt_row" ["state", "kinds_here", "row"] (sp0 K TT ds_law_spoilt_row)) (c_with_row : HasF P w K mg base (L2.CX P w) 8 "with_row" s_with_row ["table", "row"] (spX K TT (ds_with_row cs))) (c_law_is_row : Has P w K mg base CX0 3 "_law_is_row" ["kinds_here", "thing"] (sp0 K TT ds_law_is_row)) (c_law_no_row : Has P w K mg base CX0 1 "_law_no_row" ["caught"] (sp0 K TT (ds_law_no_row cs))) (c_law_no_room : Has P w K mg base CX0 1 "_law_no_room" ["caught"] (sp0 K TT (ds_law_no_room cs))) (c_law_same : HasG P w K mg base CX0 1 "_law_same" ["thing", "scope"] (sp0 K TT (ds_law_same cs))) (c_law_with_row : Has P w K mg base CX0 1 "_law_with_row" ["scope", "row"] (sp0 K TT ds_law_with_row)) (DC : DefAt K mg "_law_caught" s_law_caught ["work"]) (MA : MakesAt base mg TT "_law_row_right.<locals>.<lambda>" c9) : HasG P w K mg base CX0 12 "_law_row_right" ["state", "scope"] (sp0 K TT (ds_law_row_right cs)) := by
  obtain ⟨f, fd, F, hm, hk, hb⟩ := D
  obtain ⟨_, _, c_law_pick_ok, c_law_pick_m, c_law_pick_k, c_law_pick_b⟩ := c_law_pick
  obtain ⟨_, _, c_law_made_ok, c_law_made_m, c_law_made_k, c_law_made_b⟩ := c_law_made
  obtain ⟨_, _, c_law_draw_ok, c_law_draw_m, c_law_draw_k, c_law_draw_b⟩ := c_law_draw
  obtain ⟨_, _, c_law_spoilt_row_ok, c_law_spoilt_row_m, c_law_spoilt_row_k, c_law_spoilt_row_b⟩ := c_law_spoilt_row
  obtain ⟨_, _, c_with_row_ok, c_with_row_m, c_with_row_k, c_with_row_b, c_with_row_F⟩ := c_with_row
  obtain ⟨_, _, c_law_is_row_ok, c_law_is_row_m, c_law_is_row_k, c_law_is_row_b⟩ := c_law_is_row
  obtain ⟨_, _, c_law_no_row_ok, c_law_no_row_m, c_law_no_row_k, c_law_no_row_b⟩ := c_law_no_row
  obtain ⟨_, _, c_law_no_room_ok, c_law_no_room_m, c_law_no_room_k, c_law_no_room_b⟩ := c_law_no_room
  obtain ⟨_, _, c_law_same_ok, c_law_same_m, c_law_same_k, c_law_same_b⟩ := c_law_same
  obtain ⟨_, _, c_law_with_row_ok, c_law_with_row_m, c_law_with_row_k, c_law_with_row_b⟩ := c_law_with_row
  refine ⟨f, fd, fnC_okD F sc_law_row_right (len_law_row_right cs) (fun S A outer s H E hg hr => ?_), hm, hk, hb⟩
  refine ⟨_, _, (pss_cons (ps_asg (pe_tup (pa_cons (pe_call c_law_made_ok (hr.mono (by decide)) rfl c_law_made_m c_law_made_k c_law_made_b .nil pass0 (pa_cons (pv 1) pa_nil)) (pa_cons (pe_call c_law_pick_ok (hr.mono (by decide)) rfl c_law_pick_m c_law_pick_k c_law_pick_b .nil pass0 (pa_cons (pv 0) (pa_cons (pe_dget (hu_of hr) (pv 1) pe_str (fun _ _ => rfl)) pa_nil))) pa_nil))) (pg_tup rfl (pgs_cons (pg_name (i := 4) sc_law_row_right.nd rfl (by first | exact Or.inl rfl | exact Or.inr rfl)) (pgs_cons (pg_name (i := 5) sc_law_row_right.nd rfl (by first | exact Or.inl rfl | exact Or.inr rfl)) pgs_nil))))
      (pss_cons (ps_set (i := 2) sc_law_row_right.nd rfl (by first | exact Or.inl rfl | exact Or.inr rfl) (pe_ifExp (pt_cmpR (op_eqU hr.units) (pe_call c_law_draw_ok (hr.mono (by decide)) rfl c_law_draw_m c_law_draw_k c_law_draw_b .nil pass0 (pa_cons (pv 0) (pa_cons pe_int pa_nil))) pe_int (nomark _)) (pv 5) (pe_call c_law_spoilt_row_ok (hr.mono (by decide)) rfl c_law_spoilt_row_m c_law_spoilt_row_k c_law_spoilt_row_b .nil pass0 (pa_cons (pv 0) (pa_cons (pe_dget (hu_of hr) (pv 1) pe_str (fun _ _ => rfl)) (pa_cons (pv 5) pa_nil))))))
      (pss_cons (ps_set (i := 3) sc_law_row_right.nd rfl (by first | exact Or.inl rfl | exact Or.inr rfl) (lam_call (k := 9) DC sc_law_caught (fun g cdg => caught_gives rfl T.g_FoundError rfl rfl rfl) MA rfl (hr.mono (by decide)) (LamX.lamS_by (sc := defScope s_law_row_right) (by decide +kernel)) rfl rfl (fun _ _ _ _ _ => rfl) (fun A9 outer9 s9 H9 E9 f9 c9 hr => (pe_call c_with_row_ok (hr.mono (by decide)) rfl c_with_row_m c_with_row_k c_with_row_b .nil (passes_call (takes_of rfl rfl rfl rfl) (fun _ _ _ _ h => h)) (pa_cons (pv 4) (pa_cons (pv 2) pa_nil))))))
      (pss_cons (ps_if (pt_not (pt_val (pe_call c_law_is_row_ok (hr.mono (by decide)) rfl c_law_is_row_m c_law_is_row_k c_law_is_row_b .nil pass0 (pa_cons (pe_dget (hu_of hr) (pv 1) pe_str (fun _ _ => rfl)) (pa_cons (pv 2) pa_nil))))) (pss_one (ps_ret (pe_call c_law_no_row_ok (hr.mono (by decide)) rfl c_law_no_row_m c_law_no_row_k c_law_no_row_b .nil pass0 (pa_cons (pv 3) pa_nil)))) pss_nil)
      (pss_cons (ps_if (pt_cmpR (op_eqU hr.units) (pe_callB call_lenU (by rfl) T.n_len (by decide +kernel) (pa_cons (pe_dget (hu_of hr) (pv 1) pe_str (fun _ _ => rfl)) pa_nil)) pe_int (nomark _)) (pss_one (ps_ret (pe_and (pe_call c_law_no_room_ok (hr.mono (by decide)) rfl c_law_no_room_m c_law_no_room_k c_law_no_room_b .nil pass0 (pa_cons (pv 3) pa_nil)) (pe_one (pe_cmpR (op_eqU hr.units) (pe_callB (call_repr hg hr.units) (by rfl) T.n_repr (by decide +kernel) (pa_cons (pe_xat (pv 3)) pa_nil)) pe_str (nomark _)))))) pss_nil)
      (pss_one (ps_ret (pe_and (pe_cmpR op_isN (pv 3) pe_non (nomark _)) (pe_one (pe_callG c_law_same_ok hg (hr.mono (by decide)) rfl c_law_same_m c_law_same_k c_law_same_b .nil pass0 (pa_cons (pe_callN c_with_row_ok (hr.mono (by decide)) rfl c_with_row_m c_with_row_k (kbn_of (n := 1) (ks := ["row"]) (ix := [0]) c_with_row_F (fun _ _ _ _ _ _ us ws h1 h2 => match us, ws, h1, h2 with | [_], [_], _, _ => rfl)) passL (pa_cons (pv 4) pa_nil) (pk_cons (pv 2) pk_nil)) (pa_cons (pe_call c_law_with_row_ok (hr.mono (by decide)) rfl c_law_with_row_m c_law_with_row_k c_law_with_row_b .nil pass0 (pa_cons (pv 1) (pa_cons (pv 2) pa_nil))) pa_nil)))))))))))),
    (rds_seq (rds_asgG (rd_tup (rda_cons (rd_call0 (E := E0) (rda_cons (rd_var (i := 1)) rda_nil)) (rda_cons (rd_call0 (E := E0) (rda_st (i := 0) (rda_cons (rd_dget (rd_var (i := 1)) rd_str) rda_nil))) rda_nil))) (rdg_two (vs := [4, 5]) (by decide) (by decide)))
      (rds_seq (rds_set (rd_if (rdt_test (rd_op o2_eq (rd_call0 (E := E0) (rda_st (i := 0) (rda_cons rd_int rda_nil))) rd_int)) (rd_var (i := 5)) (rd_call0 (E := E0) (rda_st (i := 0) (rda_cons (rd_dget (rd_var (i := 1)) rd_str) (rda_cons (rd_var (i := 5)) rda_nil))))))
      (rds_seq (rds_set (rd_lam fun _ => (rd_callX (rda_cons (rd_var (i := 4)) (rda_cons (rd_var (i := 2)) rda_nil)))))
      (rds_seq (rds_if (rdt_not (rdt_B (rd_call0 (E := E0) (rda_cons (rd_dget (rd_var (i := 1)) rd_str) (rda_cons (rd_var (i := 2)) rda_nil))))) (rds_ret (rd_call0 (E := E0) (rda_cons (rd_var (i := 3)) rda_nil))) rds_next)
      (rds_seq (rds_if (rdt_test (rd_op o2_eq (rd_cb cal_len (rda_cons (rd_dget (rd_var (i := 1)) rd_str) rda_nil)) rd_int)) (rds_ret (rd_andV (rd_call0 (E := E0) (rda_cons (rd_var (i := 3)) rda_nil)) (rd_op o2_eq (rd_cb cal_repr (rda_cons (rd_xat (rd_var (i := 3))) rda_nil)) rd_str))) rds_next)
      (rds_ret (rd_andV (rd_op o2_isN (rd_var (i := 3)) rd_non) (rd_call0 (E := E0) (rda_cons (rd_callKwN (E' := E0) (D0 := dsX (ds_with_row cs)) (ix := [0]) (rda_cons (rd_var (i := 4)) rda_nil) (rda_cons (rd_var (i := 2)) rda_nil)) (rda_cons (rd_call0 (E := E0) (rda_cons (rd_var (i := 1)) (rda_cons (rd_var (i := 2)) rda_nil))) rda_nil)))))))))), ?_⟩
  rintro ss n P ⟨ks, rs, rfl, g1, g2, hn, p⟩
  walk_at "dl"
  have hn' : n + 50 < 1099511627776 := hn
  have g1' := g1
  simp only [kindsB, Bool.and_eq_true, decide_eq_true_eq] at g1'
  have g2' := g2
  simp only [rowsB, Bool.and_eq_true, decide_eq_true_eq, List.all_eq_true] at g2'
  refine ⟨ks, rs, rfl, kinds_nx g1, rows_nx g2, g1, g2, _, vd_r, rs, .inl rfl, by omega, by omega, lim (by omega), fun row hrow n1 h1 => ?_⟩
  have hrowB := g2'.1.2 row hrow
  obtain ⟨cs', rfl, hcl, _⟩ := rowB_inv hrowB
  have nrow := row_nx hrowB
  refine ⟨_, rfl, by decide, by decide, lim (by omega), fun v n2 v0 v1 h2 => ?_⟩
  simp only [eqP_int, id]
  by_cases hv : v = 0
  · rw [show decide (v = 0) = true from decide_eq_true hv]
    refine ⟨_, _, rfl, nrow, .inl ⟨ks, rs, rfl, g1, g2, fun e => ?_, fun e => ⟨fun h12 => ?_, fun h12 => ?_⟩⟩⟩
    · refine ⟨T.r_BadRow, _, vd_k, ks, _, rfl, nrow, by omega, g1'.2, ?_⟩
      rw [e]
      exact ⟨rfl, p _ (by omega)⟩
    · refine ⟨T.r_TooMany, _, vd_k, ks, _, rfl, nrow, by omega, g1'.2, ?_⟩
      rw [e]
      refine ⟨_, vd_r, ?_⟩
      walk_at "dl"
      rw [show decide ((rs.length : Int) = 12) = true from decide_eq_true (by omega)]
      refine ⟨_, rfl, T.fa_TooMany, _, rfl, .int 12, rfl, okR_int (by decide), ?_⟩
      have z : (PyData.int 12).shown = Str.ofString "12" := by decide
      rw [z]
      simp only [eqP_str, id, decide_true]
      exact p _ (by omega)
    · refine ⟨_, vd_k, ks, _, rfl, nrow, by omega, g1'.2, ?_⟩
      rw [e]
      refine ⟨_, vd_r, ?_⟩
      walk_at "dl"
      rw [show decide ((rs.length : Int) = 12) = false from decide_eq_false (by omega)]
      exact ⟨_, _, rfl, nrow, .inl ⟨ks, rs, rfl, g1, g2, (fun z => by rw [e] at z; cases z), fun _ => ⟨fun z => absurd z h12, fun _ => ⟨ks, rs, _, rfl, by omega, ks, _, rfl, g1, row_good g2 e h12, p _ (by omega)⟩⟩⟩⟩
  · rw [show decide (v = 0) = false from decide_eq_false hv]
    refine ⟨_, vd_k, ks, cs', rfl, nrow, hcl, g1'.1.1, by omega, g1'.2, lim (by omega), fun th n3 h3 nth => ?_⟩
    refine ⟨_, _, rfl, nth, .inl ⟨ks, rs, rfl, g1, g2, fun e => ?_, fun e => ⟨fun h12 => ?_, fun h12 => ?_⟩⟩⟩
    · refine ⟨T.r_BadRow, _, vd_k, ks, _, rfl, nth, by omega, g1'.2, ?_⟩
      rw [e]
      exact ⟨rfl, p _ (by omega)⟩
    · refine ⟨T.r_TooMany, _, vd_k, ks, _, rfl, nth, by omega, g1'.2, ?_⟩
      rw [e]
      refine ⟨_, vd_r, ?_⟩
      walk_at "dl"
      rw [show decide ((rs.length : Int) = 12) = true from decide_eq_true (by omega)]
      refine ⟨_, rfl, T.fa_TooMany, _, rfl, .int 12, rfl, okR_int (by decide), ?_⟩
      have z : (PyData.int 12).shown = Str.ofString "12" := by decide
      rw [z]
      simp only [eqP_str, id, decide_true]
      exact p _ (by omega)
    · refine ⟨_, vd_k, ks, _, rfl, nth, by omega, g1'.2, ?_⟩
      rw [e]
      refine ⟨_, vd_r, ?_⟩
      walk_at "dl"
      rw [show decide ((rs.length : Int) = 12) = false from decide_eq_false (by omega)]
      exact ⟨_, _, rfl, nth, .inl ⟨ks, rs, rfl, g1, g2, (fun z => by rw [e] at z; cases z), fun _ => ⟨fun z => absurd z h12, fun _ => ⟨ks, rs, _, rfl, by omega, ks, _, rfl, g1, row_good g2 e h12, p _ (by omega)⟩⟩⟩⟩

abbrev s_law_matter_right : Stmt := topS 73
theorem sc_law_matter_right : FnScope ["state", "scope", "column_here", "thing", "size_told", "caught", "made_here", "table_here", "many", "size_here", "lap"] ["state", "scope"] (defScope s_law_matter_right) := ⟨rfl, rfl, rfl, by decide +kernel, rfl, by decide +kernel, by decide +kernel⟩
theorem ok_law_matter_right {c9 : Addr} (T : Txt K mg cs tk0) (D : DefC K mg "_law_matter_right" s_law_matter_right ["state", "scope"] c9) (c_law_draw : Has P w K mg base CX0 1 "_law_draw" ["state", "size_here"] (sp0 K TT ds_law_draw)) (c_law_made : Has P w K mg base CX0 8 "_law_made" ["scope"] (sp0 K TT (ds_law_made cs))) (c_law_cell : Has P w K mg base CX0 2 "_law_cell" ["state", "size_here"] (sp0 K TT ds_law_cell)) (c_law_spoilt_row : Has P w K mg base CX0 3 "_law_spoilt_row" ["state", "kinds_here", "row"] (sp0 K TT ds_law_spoilt_row)) (c_law_pick : Has P w K mg base CX0 2 "_law_pick" ["state", "several"] (sp0 K TT ds_law_pick)) (c_with_matter : HasF P w K mg base (L2.CX P w) 8 "with_matter" s_with_matter ["table", "kind", "column"] (spX K TT (ds_with_matter cs))) (c_law_is_whole : Has P w K mg base CX0 1 "_law_is_whole" ["item"] (sp0 K TT ds_law_is_whole)) (c_law_no_kind : Has P w K mg base CX0 1 "_law_no_kind" ["caught"] (sp0 K TT (ds_law_no_kind cs))) (c_law_is_column : Has P w K mg base CX0 4 "_law_is_column" ["size_here", "many", "thing"] (sp0 K TT ds_law_is_column)) (c_law_no_column : Has P w K mg base CX0 1 "_law_no_column" ["caught"] (sp0 K TT (ds_law_no_column cs))) (c_law_no_room : Has P w K mg base CX0 1 "_law_no_room" ["caught"] (sp0 K TT (ds_law_no_room cs))) (c_law_same : HasG P w K mg base CX0 1 "_law_same" ["thing", "scope"] (sp0 K TT (ds_law_same cs))) (c_law_with_matter : Has P w K mg base CX0 1 "_law_with_matter" ["scope", "size_here", "column_here"] (sp0 K TT ds_law_with_matter)) (DC : DefAt K mg "_law_caught" s_law_caught ["work"]) (MA : MakesAt base mg TT "_law_matter_right.<locals>.<lambda>" c9) : HasG P w K mg base CX0 12 "_law_matter_right" ["state", "scope"] (sp0 K TT (ds_law_matter_right cs)) := by
  obtain ⟨f, fd, F, hm, hk, hb⟩ := D
  obtain ⟨_, _, c_law_draw_ok, c_law_draw_m, c_law_draw_k, c_law_draw_b⟩ := c_law_draw
  obtain ⟨_, _, c_law_made_ok, c_law_made_m, c_law_made_k, c_law_made_b⟩ := c_law_made
  obtain ⟨_, _, c_law_cell_ok, c_law_cell_m, c_law_cell_k, c_law_cell_b⟩ := c_law_cell
  obtain ⟨_, _, c_law_spoilt_row_ok, c_law_spoilt_row_m, c_law_spoilt_row_k, c_law_spoilt_row_b⟩ := c_law_spoilt_row
  obtain ⟨_, _, c_law_pick_ok, c_law_pick_m, c_law_pick_k, c_law_pick_b⟩ := c_law_pick
  obtain ⟨_, _, c_with_matter_ok, c_with_matter_m, c_with_matter_k, c_with_matter_b, c_with_matter_F⟩ := c_with_matter
  obtain ⟨_, _, c_law_is_whole_ok, c_law_is_whole_m, c_law_is_whole_k, c_law_is_whole_b⟩ := c_law_is_whole
  obtain ⟨_, _, c_law_no_kind_ok, c_law_no_kind_m, c_law_no_kind_k, c_law_no_kind_b⟩ := c_law_no_kind
  obtain ⟨_, _, c_law_is_column_ok, c_law_is_column_m, c_law_is_column_k, c_law_is_column_b⟩ := c_law_is_column
  obtain ⟨_, _, c_law_no_column_ok, c_law_no_column_m, c_law_no_column_k, c_law_no_column_b⟩ := c_law_no_column
  obtain ⟨_, _, c_law_no_room_ok, c_law_no_room_m, c_law_no_room_k, c_law_no_room_b⟩ := c_law_no_room
  obtain ⟨_, _, c_law_same_ok, c_law_same_m, c_law_same_k, c_law_same_b⟩ := c_law_same
  obtain ⟨_, _, c_law_with_matter_ok, c_law_with_matter_m, c_law_with_matter_k, c_law_with_matter_b⟩ := c_law_with_matter
  refine ⟨f, fd, fnC_okD F sc_law_matter_right (len_law_matter_right cs) (fun S A outer s H E hg hr => ?_), hm, hk, hb⟩
  refine ⟨_, _, (pss_cons (ps_asg (pe_tup (pa_cons (pe_call c_law_made_ok (hr.mono (by decide)) rfl c_law_made_m c_law_made_k c_law_made_b .nil pass0 (pa_cons (pv 1) pa_nil)) (pa_cons (pe_callB call_lenU (by rfl) T.n_len (by decide +kernel) (pa_cons (pe_dget (hu_of hr) (pv 1) pe_str (fun _ _ => rfl)) pa_nil)) (pa_cons (pe_op op_addU pe_int (pe_call c_law_draw_ok (hr.mono (by decide)) rfl c_law_draw_m c_law_draw_k c_law_draw_b .nil pass0 (pa_cons (pv 0) (pa_cons pe_int pa_nil)))) pa_nil)))) (pg_tup rfl (pgs_cons (pg_name (i := 7) sc_law_matter_right.nd rfl (by first | exact Or.inl rfl | exact Or.inr rfl)) (pgs_cons (pg_name (i := 8) sc_law_matter_right.nd rfl (by first | exact Or.inl rfl | exact Or.inr rfl)) (pgs_cons (pg_name (i := 9) sc_law_matter_right.nd rfl (by first | exact Or.inl rfl | exact Or.inr rfl)) pgs_nil)))))
      (pss_cons (ps_set (i := 2) sc_law_matter_right.nd rfl (by first | exact Or.inl rfl | exact Or.inr rfl) (pe_callTy call_tupU (by rfl) T.n_tuple (by decide +kernel) (pa_cons (pe_lc (own := [("lap", 10)]) (g := gName 10) rfl sc_law_matter_right.nd (pi_range1 (by rfl) T.n_range (pa_cons (pv 8) pa_nil)) (blkOk_by (N := ["state", "scope", "column_here", "thing", "size_told", "caught", "made_here", "table_here", "many", "size_here", "lap"]) (own := [("lap", 10)]) (sc := defScope s_law_matter_right) (by decide +kernel)) (fun _ _ _ _ _ => (pg_name (i := 10) sc_law_matter_right.nd rfl (by first | exact Or.inl rfl | exact Or.inr rfl))) (fun _ _ _ _ _ => pts_nil) (fun _ _ _ _ _ => (pe_call c_law_cell_ok (hr.mono (by decide)) rfl c_law_cell_m c_law_cell_k c_law_cell_b .nil pass0 (pa_cons (pv 0) (pa_cons (pv 9) pa_nil))))) pa_nil)))
      (pss_cons (ps_set (i := 3) sc_law_matter_right.nd rfl (by first | exact Or.inl rfl | exact Or.inr rfl) (pe_ifExp (pt_cmpR (op_eqU hr.units) (pe_call c_law_draw_ok (hr.mono (by decide)) rfl c_law_draw_m c_law_draw_k c_law_draw_b .nil pass0 (pa_cons (pv 0) (pa_cons pe_int pa_nil))) pe_int (nomark _)) (pv 2) (pe_call c_law_spoilt_row_ok (hr.mono (by decide)) rfl c_law_spoilt_row_m c_law_spoilt_row_k c_law_spoilt_row_b .nil pass0 (pa_cons (pv 0) (pa_cons (pe_op op_mul1 (pe_tup (pa_cons (pv 9) pa_nil)) (pv 8)) (pa_cons (pv 2) pa_nil))))))
      (pss_cons (ps_set (i := 4) sc_law_matter_right.nd rfl (by first | exact Or.inl rfl | exact Or.inr rfl) (pe_ifExp (pt_cmpR op_gt (pe_call c_law_draw_ok (hr.mono (by decide)) rfl c_law_draw_m c_law_draw_k c_law_draw_b .nil pass0 (pa_cons (pv 0) (pa_cons pe_int pa_nil))) pe_int (nomark _)) (pv 9) (pe_call c_law_pick_ok (hr.mono (by decide)) rfl c_law_pick_m c_law_pick_k c_law_pick_b .nil pass0 (pa_cons (pv 0) (pa_cons (pe_lst (pa_cons pe_int (pa_cons pe_int (pa_cons (pe_un un_neg pe_int) (pa_cons pe_bl (pa_cons pe_non (pa_cons pe_str (pa_cons (pe_tup (pa_cons pe_int pa_nil)) pa_nil)))))))) pa_nil)))))
      (pss_cons (ps_set (i := 5) sc_law_matter_right.nd rfl (by first | exact Or.inl rfl | exact Or.inr rfl) (lam_call (k := 9) DC sc_law_caught (fun g cdg => caught_gives rfl T.g_FoundError rfl rfl rfl) MA rfl (hr.mono (by decide)) (LamX.lamS_by (sc := defScope s_law_matter_right) (by decide +kernel)) rfl rfl (fun _ _ _ _ _ => rfl) (fun A9 outer9 s9 H9 E9 f9 c9 hr => (pe_call c_with_matter_ok (hr.mono (by decide)) rfl c_with_matter_m c_with_matter_k c_with_matter_b .nil (passes_call (takes_of rfl rfl rfl rfl) (fun _ _ _ _ h => h)) (pa_cons (pv 7) (pa_cons (pv 4) (pa_cons (pv 3) pa_nil)))))))
      (pss_cons (ps_if (PW.pt (pw_or (pt_not (pt_val (pe_call c_law_is_whole_ok (hr.mono (by decide)) rfl c_law_is_whole_m c_law_is_whole_k c_law_is_whole_b .nil pass0 (pa_cons (pv 4) pa_nil)))) (pw_or1 (pt_not (pt_chain op_le op_le pe_int (pv 4) pe_int))))) (pss_one (ps_ret (pe_call c_law_no_kind_ok (hr.mono (by decide)) rfl c_law_no_kind_m c_law_no_kind_k c_law_no_kind_b .nil pass0 (pa_cons (pv 5) pa_nil)))) pss_nil)
      (pss_cons (ps_if (pt_not (pt_val (pe_call c_law_is_column_ok (hr.mono (by decide)) rfl c_law_is_column_m c_law_is_column_k c_law_is_column_b .nil pass0 (pa_cons (pv 4) (pa_cons (pv 8) (pa_cons (pv 3) pa_nil)))))) (pss_one (ps_ret (pe_call c_law_no_column_ok (hr.mono (by decide)) rfl c_law_no_column_m c_law_no_column_k c_law_no_column_b .nil pass0 (pa_cons (pv 5) pa_nil)))) pss_nil)
      (pss_cons (ps_if (pt_cmpR (op_eqU hr.units) (pe_callB call_lenU (by rfl) T.n_len (by decide +kernel) (pa_cons (pe_dget (hu_of hr) (pv 1) pe_str (fun _ _ => rfl)) pa_nil)) pe_int (nomark _)) (pss_one (ps_ret (pe_and (pe_call c_law_no_room_ok (hr.mono (by decide)) rfl c_law_no_room_m c_law_no_room_k c_law_no_room_b .nil pass0 (pa_cons (pv 5) pa_nil)) (pe_one (pe_cmpR (op_eqU hr.units) (pe_callB (call_repr hg hr.units) (by rfl) T.n_repr (by decide +kernel) (pa_cons (pe_xat (pv 5)) pa_nil)) pe_str (nomark _)))))) pss_nil)
      (pss_cons (ps_set (i := 6) sc_law_matter_right.nd rfl (by first | exact Or.inl rfl | exact Or.inr rfl) (pe_callN c_with_matter_ok (hr.mono (by decide)) rfl c_with_matter_m c_with_matter_k (kbn_of (n := 1) (ks := ["column", "kind"]) (ix := [1, 0]) c_with_matter_F (fun _ _ _ _ _ _ us ws h1 h2 => match us, ws, h1, h2 with | [_], [_, _], _, _ => rfl)) passL (pa_cons (pv 7) pa_nil) (pk_cons (pv 3) (pk_cons (pv 4) pk_nil))))
      (pss_one (ps_ret (pe_and (pe_cmpR op_isN (pv 5) pe_non (nomark _)) (pe_one (pe_callG c_law_same_ok hg (hr.mono (by decide)) rfl c_law_same_m c_law_same_k c_law_same_b .nil pass0 (pa_cons (pv 6) (pa_cons (pe_call c_law_with_matter_ok (hr.mono (by decide)) rfl c_law_with_matter_m c_law_with_matter_k c_law_with_matter_b .nil pass0 (pa_cons (pv 1) (pa_cons (pv 4) (pa_cons (pv 3) pa_nil)))) pa_nil)))))))))))))))),
    (rds_seq (rds_asgG (rd_tup (rda_cons (rd_call0 (E := E0) (rda_cons (rd_var (i := 1)) rda_nil)) (rda_cons (rd_cb cal_len (rda_cons (rd_dget (rd_var (i := 1)) rd_str) rda_nil)) (rda_cons (rd_op o2_add rd_int (rd_call0 (E := E0) (rda_st (i := 0) (rda_cons rd_int rda_nil)))) rda_nil)))) (rdg_three (vs := [7, 8, 9]) (by decide) (by decide) (by decide)))
      (rds_seq (rds_set (rd_cb cal_tuple (rda_cons (rd_lc (rdj_of (rdi_range1 (rda_cons (rd_var (i := 8)) rda_nil))) (rdg_name (vs := [10]) (by decide)) rdt_yes (rd_call0 (E := E0) (rda_st (i := 0) (rda_cons (rd_var (i := 9)) rda_nil)))) rda_nil)))
      (rds_seq (rds_set (rd_if (rdt_test (rd_op o2_eq (rd_call0 (E := E0) (rda_st (i := 0) (rda_cons rd_int rda_nil))) rd_int)) (rd_var (i := 2)) (rd_call0 (E := E0) (rda_st (i := 0) (rda_cons (rd_op o2_mul1 (rd_tup (rda_cons (rd_var (i := 9)) rda_nil)) (rd_var (i := 8))) (rda_cons (rd_var (i := 2)) rda_nil))))))
      (rds_seq (rds_set (rd_if (rdt_test (rd_op o2_cmp (rd_call0 (E := E0) (rda_st (i := 0) (rda_cons rd_int rda_nil))) rd_int)) (rd_var (i := 9)) (rd_call0 (E := E0) (rda_st (i := 0) (rda_cons (rd_lst (rda_cons rd_int (rda_cons rd_int (rda_cons (rd_un o1_neg rd_int) (rda_cons rd_bl (rda_cons rd_non (rda_cons rd_str (rda_cons (rd_tup (rda_cons rd_int rda_nil)) rda_nil)))))))) rda_nil)))))
      (rds_seq (rds_set (rd_lam fun _ => (rd_callX (rda_cons (rd_var (i := 7)) (rda_cons (rd_var (i := 4)) (rda_cons (rd_var (i := 3)) rda_nil))))))
      (rds_seq (rds_if (rdt_or (rdt_not (rdt_B (rd_call0 (E := E0) (rda_cons (rd_var (i := 4)) rda_nil)))) (rdt_not (rdt_test (rd_chain o2_cmp o2_cmp rd_int (rd_var (i := 4)) rd_int)))) (rds_ret (rd_call0 (E := E0) (rda_cons (rd_var (i := 5)) rda_nil))) rds_next)
      (rds_seq (rds_if (rdt_not (rdt_B (rd_call0 (E := E0) (rda_cons (rd_var (i := 4)) (rda_cons (rd_var (i := 8)) (rda_cons (rd_var (i := 3)) rda_nil)))))) (rds_ret (rd_call0 (E := E0) (rda_cons (rd_var (i := 5)) rda_nil))) rds_next)
      (rds_seq (rds_if (rdt_test (rd_op o2_eq (rd_cb cal_len (rda_cons (rd_dget (rd_var (i := 1)) rd_str) rda_nil)) rd_int)) (rds_ret (rd_andV (rd_call0 (E := E0) (rda_cons (rd_var (i := 5)) rda_nil)) (rd_op o2_eq (rd_cb cal_repr (rda_cons (rd_xat (rd_var (i := 5))) rda_nil)) rd_str))) rds_next)
      (rds_seq (rds_set (rd_callKwN (E' := E0) (D0 := dsX (ds_with_matter cs)) (ix := [1, 0]) (rda_cons (rd_var (i := 7)) rda_nil) (rda_cons (rd_var (i := 3)) (rda_cons (rd_var (i := 4)) rda_nil))))
      (rds_ret (rd_andV (rd_op o2_isN (rd_var (i := 5)) rd_non) (rd_call0 (E := E0) (rda_cons (rd_var (i := 6)) (rda_cons (rd_call0 (E := E0) (rda_cons (rd_var (i := 1)) (rda_cons (rd_var (i := 4)) (rda_cons (rd_var (i := 3)) rda_nil)))) rda_nil)))))))))))))), ?_⟩
  rintro ss n P ⟨ks, rs, rfl, g1, g2, hn, p⟩
  walk_at "dl"
  have hn' : n + 100 < 1099511627776 := hn
  have g1' := g1
  simp only [kindsB, Bool.and_eq_true, decide_eq_true_eq] at g1'
  have g2' := g2
  simp only [rowsB, Bool.and_eq_true, decide_eq_true_eq, List.all_eq_true] at g2'
  refine ⟨ks, rs, rfl, kinds_nx g1, rows_nx g2, g1, g2, _, vd_r, _, rfl, by decide, by decide, lim (by omega), fun b n1 b0 b1 h1 => ?_⟩
  obtain ⟨z, rfl⟩ := Int.eq_ofNat_of_zero_le b0
  have hz1 : (1 : Int) ≤ 1 + (z : Int) := by omega
  have hz6 : (1 : Int) + (z : Int) ≤ 6 := by omega
  walk_at "dl"
  generalize (1 : Int) + (z : Int) = sz at hz1 hz6 ⊢
  refine ⟨by omega, by omega, by rw [range_len]; omega, ?_⟩
  refine compM_gen (c := 2) (N := n + 60) (good := fun _ d => cellB (.int sz) d = true) _ _ _ (by rw [range_len]; omega) (fun x hx m k hm q => ⟨sz, rfl, hz1, hz6, lim (by omega), fun d m' hm' hd => q _ _ hm' hd⟩) fun ds n2 h2 hl hds => ?_
  rw [range_len] at h2 hl
  have hcell : ∀ d ∈ ds, cellB (.int sz) d = true := fun d hd => by
    obtain ⟨j, hj, rfl⟩ := List.mem_iff_getElem.mp hd
    have hj2 : j < (rangeD 0 (rs.length : Int).toNat).length := by rw [range_len]; omega
    exact hds j _ _ (List.getElem?_eq_getElem hj2) (List.getElem?_eq_getElem hj)
  have nds : nxs ds = true := nxs_of fun d hd => cell_nx (hcell d hd)
  refine ⟨_, rfl, by decide, by decide, lim (by omega), fun v n3 v0 v1 h3 => ?_⟩
  simp only [eqP_int, id]
  by_cases hv : v = 0
  · rw [show decide (v = 0) = true from decide_eq_true hv]
    refine ⟨_, rfl, by decide, by decide, lim (by omega), fun u n9 u0 u1 h9 => ?_⟩
    walk_at "dl"
    by_cases hu : 0 < u
    · rw [show decide (0 < u) = true from decide_eq_true hu]
      have bk : betw 1 6 (.int sz) = true := by simp [betw, hz1, hz6]
      refine ⟨_, _, _, rfl, rfl, nds, .inl ⟨ks, rs, rfl, g1, g2, (fun e => by rw [bk] at e; cases e), fun _ => ⟨fun e2 => ?_, fun cs' ed e2 => ⟨fun h8 => ?_, fun h8 => ?_⟩⟩⟩⟩
      · refine ⟨T.r_BadColumn, _, rfl, trivial, ?_⟩
        simp only [isInt]
        rw [show decide ((1 : Int) ≤ sz) = true from decide_eq_true hz1, show decide (sz ≤ (6 : Int)) = true from decide_eq_true hz6]
        refine ⟨rs.length, sz, _, rfl, nds, by omega, by omega, hz1, hz6, ?_⟩
        rw [e2]
        exact ⟨rfl, p _ (by omega)⟩
      · refine ⟨T.r_TooMany, _, rfl, trivial, ?_⟩
        simp only [isInt]
        rw [show decide ((1 : Int) ≤ sz) = true from decide_eq_true hz1, show decide (sz ≤ (6 : Int)) = true from decide_eq_true hz6]
        refine ⟨rs.length, sz, _, rfl, nds, by omega, by omega, hz1, hz6, ?_⟩
        rw [e2]
        refine ⟨_, vd_k, ?_⟩
        walk_at "dl"
        rw [show decide ((ks.length : Int) = 8) = true from decide_eq_true (by omega)]
        refine ⟨_, rfl, T.fa_TooMany, _, rfl, .int 8, rfl, okR_int (by decide), ?_⟩
        have z : (PyData.int 8).shown = Str.ofString "8" := by decide
        rw [z]
        simp only [eqP_str, id, decide_true]
        exact p _ (by omega)
      · refine ⟨_, rfl, trivial, ?_⟩
        simp only [isInt]
        rw [show decide ((1 : Int) ≤ sz) = true from decide_eq_true hz1, show decide (sz ≤ (6 : Int)) = true from decide_eq_true hz6]
        refine ⟨rs.length, sz, _, rfl, nds, by omega, by omega, hz1, hz6, ?_⟩
        rw [e2]
        refine ⟨_, vd_k, ?_⟩
        walk_at "dl"
        rw [show decide ((ks.length : Int) = 8) = false from decide_eq_false (by omega)]
        cases ed
        obtain ⟨k1, k2⟩ := col_good g1 g2 bk e2 h8
        have e5 := e2
        simp only [colB, Bool.and_eq_true, decide_eq_true_eq] at e5
        exact ⟨_, _, _, rfl, rfl, nds, .inl ⟨ks, rs, rfl, g1, g2, (fun e => by rw [bk] at e; cases e), fun _ => ⟨(fun z => by rw [e2] at z; cases z), fun cs2 ed2 _ => ⟨fun z => absurd z h8, fun _ => by
          cases ed2
          exact ⟨ks, rs, _, _, rfl, g1, g2, e5.1.1, _, _, rfl, k1, k2, p _ (by omega)⟩⟩⟩⟩⟩
    · rw [show decide (0 < u) = false from decide_eq_false hu]
      refine ⟨_, .inr rfl, by simp, by simp, lim (by omega), fun w hw nz hnz => ?_⟩
      have bw : nx w = true ∧ betw 1 6 w = false := by
        revert w
        simp [nx, nxs, betw]
      refine ⟨_, _, _, rfl, bw.1, nds, .inl ⟨ks, rs, rfl, g1, g2, fun _ => ?_, fun e => by rw [bw.2] at e; cases e⟩⟩
      refine ⟨T.r_BadKind, _, rfl, bare_of bw.1, ?_⟩
      simp only [List.mem_cons, List.not_mem_nil, or_false] at hw
      rcases hw with rfl | rfl | rfl | rfl | rfl | rfl | rfl <;> exact ⟨rfl, p _ (by omega)⟩
  · rw [show decide (v = 0) = false from decide_eq_false hv]
    walk_at "dl"
    by_cases h1r : rs.length = 1
    · refine .inl ⟨by omega, ?_⟩
      refine ⟨_, ds, rfl, nds, by rw [List.length_singleton]; omega, by rw [List.length_singleton]; omega, by rw [List.length_singleton]; omega, by simp [betw, hz1, hz6], lim (by omega), fun th n8 h8 nth => ?_⟩
      walk_at "dl"
      refine ⟨_, rfl, by decide, by decide, lim (by omega), fun u n9 u0 u1 h9 => ?_⟩
      walk_at "dl"
      by_cases hu : 0 < u
      · rw [show decide (0 < u) = true from decide_eq_true hu]
        have bk : betw 1 6 (.int sz) = true := by simp [betw, hz1, hz6]
        refine ⟨_, _, _, rfl, rfl, nth, .inl ⟨ks, rs, rfl, g1, g2, (fun e => by rw [bk] at e; cases e), fun _ => ⟨fun e2 => ?_, fun cs' ed e2 => ⟨fun h8 => ?_, fun h8 => ?_⟩⟩⟩⟩
        · refine ⟨T.r_BadColumn, _, rfl, trivial, ?_⟩
          simp only [isInt]
          rw [show decide ((1 : Int) ≤ sz) = true from decide_eq_true hz1, show decide (sz ≤ (6 : Int)) = true from decide_eq_true hz6]
          refine ⟨rs.length, sz, _, rfl, nth, by omega, by omega, hz1, hz6, ?_⟩
          rw [e2]
          exact ⟨rfl, p _ (by omega)⟩
        · refine ⟨T.r_TooMany, _, rfl, trivial, ?_⟩
          simp only [isInt]
          rw [show decide ((1 : Int) ≤ sz) = true from decide_eq_true hz1, show decide (sz ≤ (6 : Int)) = true from decide_eq_true hz6]
          refine ⟨rs.length, sz, _, rfl, nth, by omega, by omega, hz1, hz6, ?_⟩
          rw [e2]
          refine ⟨_, vd_k, ?_⟩
          walk_at "dl"
          rw [show decide ((ks.length : Int) = 8) = true from decide_eq_true (by omega)]
          refine ⟨_, rfl, T.fa_TooMany, _, rfl, .int 8, rfl, okR_int (by decide), ?_⟩
          have z : (PyData.int 8).shown = Str.ofString "8" := by decide
          rw [z]
          simp only [eqP_str, id, decide_true]
          exact p _ (by omega)
        · refine ⟨_, rfl, trivial, ?_⟩
          simp only [isInt]
          rw [show decide ((1 : Int) ≤ sz) = true from decide_eq_true hz1, show decide (sz ≤ (6 : Int)) = true from decide_eq_true hz6]
          refine ⟨rs.length, sz, _, rfl, nth, by omega, by omega, hz1, hz6, ?_⟩
          rw [e2]
          refine ⟨_, vd_k, ?_⟩
          walk_at "dl"
          rw [show decide ((ks.length : Int) = 8) = false from decide_eq_false (by omega)]
          cases ed
          obtain ⟨k1, k2⟩ := col_good g1 g2 bk e2 h8
          have e5 := e2
          simp only [colB, Bool.and_eq_true, decide_eq_true_eq] at e5
          exact ⟨_, _, _, rfl, rfl, nth, .inl ⟨ks, rs, rfl, g1, g2, (fun e => by rw [bk] at e; cases e), fun _ => ⟨(fun z => by rw [e2] at z; cases z), fun cs2 ed2 _ => ⟨fun z => absurd z h8, fun _ => by
            cases ed2
            exact ⟨ks, rs, _, _, rfl, g1, g2, e5.1.1, _, _, rfl, k1, k2, p _ (by omega)⟩⟩⟩⟩⟩
      · rw [show decide (0 < u) = false from decide_eq_false hu]
        refine ⟨_, .inr rfl, by simp, by simp, lim (by omega), fun w hw nz hnz => ?_⟩
        have bw : nx w = true ∧ betw 1 6 w = false := by
          revert w
          simp [nx, nxs, betw]
        refine ⟨_, _, _, rfl, bw.1, nth, .inl ⟨ks, rs, rfl, g1, g2, fun _ => ?_, fun e => by rw [bw.2] at e; cases e⟩⟩
        refine ⟨T.r_BadKind, _, rfl, bare_of bw.1, ?_⟩
        simp only [List.mem_cons, List.not_mem_nil, or_false] at hw
        rcases hw with rfl | rfl | rfl | rfl | rfl | rfl | rfl <;> exact ⟨rfl, p _ (by omega)⟩
    · refine .inr ⟨by simp, by omega, by omega, ?_⟩
      rw [Int.toNat_natCast, rep_flat]
      refine ⟨_, ds, rfl, nds, by rw [List.length_replicate]; omega, by rw [List.length_replicate]; omega, by rw [List.length_replicate]; omega, rep_kinds hz1 hz6, lim (by omega), fun th n8 h8 nth => ?_⟩
      walk_at "dl"
      refine ⟨_, rfl, by decide, by decide, lim (by omega), fun u n9 u0 u1 h9 => ?_⟩
      walk_at "dl"
      by_cases hu : 0 < u
      · rw [show decide (0 < u) = true from decide_eq_true hu]
        have bk : betw 1 6 (.int sz) = true := by simp [betw, hz1, hz6]
        refine ⟨_, _, _, rfl, rfl, nth, .inl ⟨ks, rs, rfl, g1, g2, (fun e => by rw [bk] at e; cases e), fun _ => ⟨fun e2 => ?_, fun cs' ed e2 => ⟨fun h8 => ?_, fun h8 => ?_⟩⟩⟩⟩
        · refine ⟨T.r_BadColumn, _, rfl, trivial, ?_⟩
          simp only [isInt]
          rw [show decide ((1 : Int) ≤ sz) = true from decide_eq_true hz1, show decide (sz ≤ (6 : Int)) = true from decide_eq_true hz6]
          refine ⟨rs.length, sz, _, rfl, nth, by omega, by omega, hz1, hz6, ?_⟩
          rw [e2]
          exact ⟨rfl, p _ (by omega)⟩
        · refine ⟨T.r_TooMany, _, rfl, trivial, ?_⟩
          simp only [isInt]
          rw [show decide ((1 : Int) ≤ sz) = true from decide_eq_true hz1, show decide (sz ≤ (6 : Int)) = true from decide_eq_true hz6]
          refine ⟨rs.length, sz, _, rfl, nth, by omega, by omega, hz1, hz6, ?_⟩
          rw [e2]
          refine ⟨_, vd_k, ?_⟩
          walk_at "dl"
          rw [show decide ((ks.length : Int) = 8) = true from decide_eq_true (by omega)]
          refine ⟨_, rfl, T.fa_TooMany, _, rfl, .int 8, rfl, okR_int (by decide), ?_⟩
          have z : (PyData.int 8).shown = Str.ofString "8" := by decide
          rw [z]
          simp only [eqP_str, id, decide_true]
          exact p _ (by omega)
        · refine ⟨_, rfl, trivial, ?_⟩
          simp only [isInt]
          rw [show decide ((1 : Int) ≤ sz) = true from decide_eq_true hz1, show decide (sz ≤ (6 : Int)) = true from decide_eq_true hz6]
          refine ⟨rs.length, sz, _, rfl, nth, by omega, by omega, hz1, hz6, ?_⟩
          rw [e2]
          refine ⟨_, vd_k, ?_⟩
          walk_at "dl"
          rw [show decide ((ks.length : Int) = 8) = false from decide_eq_false (by omega)]
          cases ed
          obtain ⟨k1, k2⟩ := col_good g1 g2 bk e2 h8
          have e5 := e2
          simp only [colB, Bool.and_eq_true, decide_eq_true_eq] at e5
          exact ⟨_, _, _, rfl, rfl, nth, .inl ⟨ks, rs, rfl, g1, g2, (fun e => by rw [bk] at e; cases e), fun _ => ⟨(fun z => by rw [e2] at z; cases z), fun cs2 ed2 _ => ⟨fun z => absurd z h8, fun _ => by
            cases ed2
            exact ⟨ks, rs, _, _, rfl, g1, g2, e5.1.1, _, _, rfl, k1, k2, p _ (by omega)⟩⟩⟩⟩⟩
      · rw [show decide (0 < u) = false from decide_eq_false hu]
        refine ⟨_, .inr rfl, by simp, by simp, lim (by omega), fun w hw nz hnz => ?_⟩
        have bw : nx w = true ∧ betw 1 6 w = false := by
          revert w
          simp [nx, nxs, betw]
        refine ⟨_, _, _, rfl, bw.1, nth, .inl ⟨ks, rs, rfl, g1, g2, fun _ => ?_, fun e => by rw [bw.2] at e; cases e⟩⟩
        refine ⟨T.r_BadKind, _, rfl, bare_of bw.1, ?_⟩
        simp only [List.mem_cons, List.not_mem_nil, or_false] at hw
        rcases hw with rfl | rfl | rfl | rfl | rfl | rfl | rfl <;> exact ⟨rfl, p _ (by omega)⟩

abbrev s_law_read_right : Stmt := topS 71
theorem sc_law_read_right : FnScope ["state", "scope", "at", "spot", "item", "caught", "bads", "args_here", "table_here", "after"] ["state", "scope", "at", "spot", "item"] (defScope s_law_read_right) := ⟨rfl, rfl, rfl, by decide +kernel, rfl, by decide +kernel, by decide +kernel⟩
theorem ok_law_read_right {c9 : Addr} (T : Txt K mg cs tk0) (D : DefC K mg "_law_read_right" s_law_read_right ["state", "scope", "at", "spot", "item"] c9) (c_law_with_cell : Has P w K mg base CX0 2 "_law_with_cell" ["scope", "at", "spot", "item"] (sp0 K TT ds_law_with_cell)) (c_law_made : Has P w K mg base CX0 8 "_law_made" ["scope"] (sp0 K TT (ds_law_made cs))) (c_read : HasF P w K mg base (L2.CX P w) 9 "read" s_read ["table", "valley", "matter", "custom"] (spX K TT (ds_read cs))) (c_law_first_unread : Has P w K mg base CX0 1 "_law_first_unread" ["many", "rows_here"] (sp0 K TT ds_law_first_unread)) (c_law_same : HasG P w K mg base CX0 1 "_law_same" ["thing", "scope"] (sp0 K TT (ds_law_same cs))) (c_law_bad_table : Has P w K mg base CX0 3 "_law_bad_table" ["state"] (sp0 K TT ds_law_bad_table)) (c_law_bad_number : Has P w K mg base CX0 3 "_law_bad_number" ["state", "size_here"] (sp0 K TT ds_law_bad_number)) (c_law_pick : Has P w K mg base CX0 2 "_law_pick" ["state", "several"] (sp0 K TT ds_law_pick)) (c_law_refused : HasG P w K mg base CX0 25 "_law_refused" ["state", "work", "args", "bads"] (sp0 K TT (ds_law_refused K cs (LamOkD P w K mg base TT 20) (HeldD P w K mg base TT 5)))) (c_law_no_table : Has P w K mg base CX0 1 "_law_no_table" ["caught"] (sp0 K TT (ds_law_no_table cs))) (c_law_no_valley : Has P w K mg base CX0 1 "_law_no_valley" ["caught"] (sp0 K TT (ds_law_no_valley cs))) (c_law_no_matter : Has P w K mg base CX0 1 "_law_no_matter" ["caught"] (sp0 K TT (ds_law_no_matter cs))) (c_law_no_custom : Has P w K mg base CX0 1 "_law_no_custom" ["caught"] (sp0 K TT (ds_law_no_custom cs))) (DC : DefAt K mg "_law_caught" s_law_caught ["work"]) (MA : MakesAt base mg TT "_law_read_right.<locals>.<lambda>" c9) : HasG P w K mg base CX0 29 "_law_read_right" ["state", "scope", "at", "spot", "item"] (sp0 K TT (ds_law_read_right cs)) := by
  obtain ⟨f, fd, F, hm, hk, hb⟩ := D
  have hd_law_no_table := HasHeld c_law_no_table T.d__law_no_table (by decide : _ ≤ 5)
  have hd_law_no_valley := HasHeld c_law_no_valley T.d__law_no_valley (by decide : _ ≤ 5)
  have hd_law_no_matter := HasHeld c_law_no_matter T.d__law_no_matter (by decide : _ ≤ 5)
  have hd_law_no_custom := HasHeld c_law_no_custom T.d__law_no_custom (by decide : _ ≤ 5)
  obtain ⟨_, _, c_law_with_cell_ok, c_law_with_cell_m, c_law_with_cell_k, c_law_with_cell_b⟩ := c_law_with_cell
  obtain ⟨_, _, c_law_made_ok, c_law_made_m, c_law_made_k, c_law_made_b⟩ := c_law_made
  obtain ⟨_, _, c_read_ok, c_read_m, c_read_k, c_read_b, c_read_F⟩ := c_read
  obtain ⟨_, _, c_law_first_unread_ok, c_law_first_unread_m, c_law_first_unread_k, c_law_first_unread_b⟩ := c_law_first_unread
  obtain ⟨_, _, c_law_same_ok, c_law_same_m, c_law_same_k, c_law_same_b⟩ := c_law_same
  obtain ⟨_, _, c_law_bad_table_ok, c_law_bad_table_m, c_law_bad_table_k, c_law_bad_table_b⟩ := c_law_bad_table
  obtain ⟨_, _, c_law_bad_number_ok, c_law_bad_number_m, c_law_bad_number_k, c_law_bad_number_b⟩ := c_law_bad_number
  obtain ⟨_, _, c_law_pick_ok, c_law_pick_m, c_law_pick_k, c_law_pick_b⟩ := c_law_pick
  obtain ⟨_, _, c_law_refused_ok, c_law_refused_m, c_law_refused_k, c_law_refused_b⟩ := c_law_refused
  refine ⟨f, fd, fnC_okD F sc_law_read_right (len_law_read_right cs) (fun S A outer s H E hg hr => ?_), hm, hk, hb⟩
  refine ⟨_, _, (pss_cons (ps_asg (pe_tup (pa_cons (pe_call c_law_made_ok (hr.mono (by decide)) rfl c_law_made_m c_law_made_k c_law_made_b .nil pass0 (pa_cons (pv 1) pa_nil)) (pa_cons (pe_call c_law_with_cell_ok (hr.mono (by decide)) rfl c_law_with_cell_m c_law_with_cell_k c_law_with_cell_b .nil pass0 (pa_cons (pv 1) (pa_cons (pv 2) (pa_cons (pv 3) (pa_cons (pv 4) pa_nil))))) pa_nil))) (pg_tup rfl (pgs_cons (pg_name (i := 8) sc_law_read_right.nd rfl (by first | exact Or.inl rfl | exact Or.inr rfl)) (pgs_cons (pg_name (i := 9) sc_law_read_right.nd rfl (by first | exact Or.inl rfl | exact Or.inr rfl)) pgs_nil))))
      (pss_cons (ps_set (i := 5) sc_law_read_right.nd rfl (by first | exact Or.inl rfl | exact Or.inr rfl) (lam_call (k := 26) DC sc_law_caught (fun g cdg => caught_gives rfl T.g_FoundError rfl rfl rfl) MA rfl (hr.mono (by decide)) (LamX.lamS_by (sc := defScope s_law_read_right) (by decide +kernel)) rfl rfl (fun _ _ _ _ _ => rfl) (fun A9 outer9 s9 H9 E9 f9 c9 hr => (pe_call c_read_ok (hr.mono (by decide)) rfl c_read_m c_read_k c_read_b .nil (passes_call (takes_of rfl rfl rfl rfl) (fun _ _ _ _ h => h)) (pa_cons (pv 8) (pa_cons (pv 2) (pa_cons (pv 3) (pa_cons (pv 4) pa_nil))))))))
      (pss_cons (ps_if (pt_cmpR (op_neNil hr.units) (pe_call c_law_first_unread_ok (hr.mono (by decide)) rfl c_law_first_unread_m c_law_first_unread_k c_law_first_unread_b .nil pass0 (pa_cons (pe_callB call_lenU (by rfl) T.n_len (by decide +kernel) (pa_cons (pe_dget (hu_of hr) (pv 1) pe_str (fun _ _ => rfl)) pa_nil)) (pa_cons (pe_dget (hu_of hr) (pv 9) pe_str (fun _ _ => rfl)) pa_nil))) (pe_lst pa_nil) (nomark _)) (pss_one (ps_ret (pe_and (pe_callB call_isD (by rfl) T.n_isinstance (by decide +kernel) (pa_cons (pv 5) (pa_cons (pe_glob (v := .ref cs.AllUnread) rfl T.g_AllUnread rfl) pa_nil))) (pe_one (pe_cmpR (op_eqU hr.units) (pe_callB (call_repr hg hr.units) (by rfl) T.n_repr (by decide +kernel) (pa_cons (pe_xat (pv 5)) pa_nil)) (pe_callB (call_repr hg hr.units) (by rfl) T.n_repr (by decide +kernel) (pa_cons (pv 3) pa_nil)) (nomark _)))))) pss_nil)
      (pss_cons (ps_if (pt_cmpR op_notN (pv 5) pe_non (nomark _)) (pss_one (ps_ret pe_bl)) pss_nil)
      (pss_cons (ps_if (pt_not (pt_val (pe_callG c_law_same_ok hg (hr.mono (by decide)) rfl c_law_same_m c_law_same_k c_law_same_b .nil pass0 (pa_cons (pe_callN c_read_ok (hr.mono (by decide)) rfl c_read_m c_read_k (kbn_of (n := 2) (ks := ["custom", "matter"]) (ix := [1, 0]) c_read_F (fun _ _ _ _ _ _ us ws h1 h2 => match us, ws, h1, h2 with | [_, _], [_, _], _, _ => rfl)) passL (pa_cons (pv 8) (pa_cons (pv 2) pa_nil)) (pk_cons (pv 4) (pk_cons (pv 3) pk_nil))) (pa_cons (pv 9) pa_nil))))) (pss_one (ps_ret pe_bl)) pss_nil)
      (pss_cons (ps_set (i := 6) sc_law_read_right.nd rfl (by first | exact Or.inl rfl | exact Or.inr rfl) (pe_lst (pa_cons (pe_tup (pa_cons pe_int (pa_cons (pe_call c_law_bad_table_ok (hr.mono (by decide)) rfl c_law_bad_table_m c_law_bad_table_k c_law_bad_table_b .nil pass0 (pa_cons (pv 0) pa_nil)) (pa_cons (pe_glob (v := .ref cs.law_no_table) rfl T.d__law_no_table rfl) pa_nil)))) pa_nil)))
      (pss_cons (ps_expr (pe_bm PySem.F.plainAttrs_list PySem.F.slot_list_append PySem.F.type_list_append mt_append (pv 6) (pa_cons (pe_tup (pa_cons pe_int (pa_cons (pe_call c_law_bad_number_ok (hr.mono (by decide)) rfl c_law_bad_number_m c_law_bad_number_k c_law_bad_number_b .nil pass0 (pa_cons (pv 0) (pa_cons (pe_callB call_lenU (by rfl) T.n_len (by decide +kernel) (pa_cons (pe_dget (hu_of hr) (pv 1) pe_str (fun _ _ => rfl)) pa_nil)) pa_nil))) (pa_cons (pe_glob (v := .ref cs.law_no_valley) rfl T.d__law_no_valley rfl) pa_nil)))) pa_nil)))
      (pss_cons (ps_expr (pe_bm PySem.F.plainAttrs_list PySem.F.slot_list_append PySem.F.type_list_append mt_append (pv 6) (pa_cons (pe_tup (pa_cons pe_int (pa_cons (pe_call c_law_bad_number_ok (hr.mono (by decide)) rfl c_law_bad_number_m c_law_bad_number_k c_law_bad_number_b .nil pass0 (pa_cons (pv 0) (pa_cons (pe_callB call_lenU (by rfl) T.n_len (by decide +kernel) (pa_cons (pe_dget (hu_of hr) (pv 1) pe_str (fun _ _ => rfl)) pa_nil)) pa_nil))) (pa_cons (pe_glob (v := .ref cs.law_no_matter) rfl T.d__law_no_matter rfl) pa_nil)))) pa_nil)))
      (pss_cons (ps_expr (pe_bm PySem.F.plainAttrs_list PySem.F.slot_list_append PySem.F.type_list_append mt_append (pv 6) (pa_cons (pe_tup (pa_cons pe_int (pa_cons (pe_call c_law_pick_ok (hr.mono (by decide)) rfl c_law_pick_m c_law_pick_k c_law_pick_b .nil pass0 (pa_cons (pv 0) (pa_cons (pe_lst (pa_cons (pe_ix ix_seq (pe_dget (hu_of hr) (pv 1) pe_str (fun _ _ => rfl)) (pv 3) (fun _ _ => rfl)) (pa_cons pe_int (pa_cons (pe_un un_neg pe_int) (pa_cons pe_bl (pa_cons pe_bl (pa_cons pe_str (pa_cons (pe_tup (pa_cons pe_int pa_nil)) pa_nil)))))))) pa_nil))) (pa_cons (pe_glob (v := .ref cs.law_no_custom) rfl T.d__law_no_custom rfl) pa_nil)))) pa_nil)))
      (pss_cons (ps_set (i := 7) sc_law_read_right.nd rfl (by first | exact Or.inl rfl | exact Or.inr rfl) (pe_lst (pa_cons (pv 8) (pa_cons (pv 2) (pa_cons (pv 3) (pa_cons (pv 4) pa_nil))))))
      (pss_one (ps_ret (pe_callG c_law_refused_ok hg (hr.mono (by decide)) rfl c_law_refused_m c_law_refused_k c_law_refused_b .nil pass0 (pa_cons (pv 0) (pa_cons (pe_lamV MA rfl rfl (fun _ => rfl) (noFree (by decide +kernel))) (pa_cons (pv 7) (pa_cons (pv 6) pa_nil))))))))))))))))),
    (rds_seq (rds_asgG (rd_tup (rda_cons (rd_call0 (E := E0) (rda_cons (rd_var (i := 1)) rda_nil)) (rda_cons (rd_call0 (E := E0) (rda_cons (rd_var (i := 1)) (rda_cons (rd_var (i := 2)) (rda_cons (rd_var (i := 3)) (rda_cons (rd_var (i := 4)) rda_nil))))) rda_nil))) (rdg_two (vs := [8, 9]) (by decide) (by decide)))
      (rds_seq (rds_set (rd_lam fun _ => (rd_callX (rda_cons (rd_var (i := 8)) (rda_cons (rd_var (i := 2)) (rda_cons (rd_var (i := 3)) (rda_cons (rd_var (i := 4)) rda_nil)))))))
      (rds_seq (rds_if (rdt_test (rd_op o2_neNil (rd_call0 (E := E0) (rda_cons (rd_cb cal_len (rda_cons (rd_dget (rd_var (i := 1)) rd_str) rda_nil)) (rda_cons (rd_dget (rd_var (i := 9)) rd_str) rda_nil))) (rd_lst rda_nil))) (rds_ret (rd_andV (rd_is (.own _) (rd_var (i := 5))) (rd_op o2_eq (rd_cb cal_repr (rda_cons (rd_xat (rd_var (i := 5))) rda_nil)) (rd_cb cal_repr (rda_cons (rd_var (i := 3)) rda_nil))))) rds_next)
      (rds_seq (rds_if (rdt_test (rd_op o2_notN (rd_var (i := 5)) rd_non)) (rds_ret rd_bl) rds_next)
      (rds_seq (rds_if (rdt_not (rdt_B (rd_call0 (E := E0) (rda_cons (rd_callKwN (E' := E0) (D0 := dsX (ds_read cs)) (ix := [1, 0]) (rda_cons (rd_var (i := 8)) (rda_cons (rd_var (i := 2)) rda_nil)) (rda_cons (rd_var (i := 4)) (rda_cons (rd_var (i := 3)) rda_nil))) (rda_cons (rd_var (i := 9)) rda_nil))))) (rds_ret rd_bl) rds_next)
      (rds_seq (rds_setO (rdn_lst (rda_cons (rd_tup (rda_cons rd_int (rda_cons (rd_call0 (E := E0) (rda_st (i := 0) rda_nil)) (rda_cons rd_fnv rda_nil)))) rda_nil)))
      (rds_seq (rds_appO (i := 6) (rd_tup (rda_cons rd_int (rda_cons (rd_call0 (E := E0) (rda_st (i := 0) (rda_cons (rd_cb cal_len (rda_cons (rd_dget (rd_var (i := 1)) rd_str) rda_nil)) rda_nil))) (rda_cons rd_fnv rda_nil)))))
      (rds_seq (rds_appO (i := 6) (rd_tup (rda_cons rd_int (rda_cons (rd_call0 (E := E0) (rda_st (i := 0) (rda_cons (rd_cb cal_len (rda_cons (rd_dget (rd_var (i := 1)) rd_str) rda_nil)) rda_nil))) (rda_cons rd_fnv rda_nil)))))
      (rds_seq (rds_appO (i := 6) (rd_tup (rda_cons rd_int (rda_cons (rd_call0 (E := E0) (rda_st (i := 0) (rda_cons (rd_lst (rda_cons (rd_op o2_ix (rd_dget (rd_var (i := 1)) rd_str) (rd_var (i := 3))) (rda_cons rd_int (rda_cons (rd_un o1_neg rd_int) (rda_cons rd_bl (rda_cons rd_bl (rda_cons rd_str (rda_cons (rd_tup (rda_cons rd_int rda_nil)) rda_nil)))))))) rda_nil))) (rda_cons rd_fnv rda_nil)))))
      (rds_seq (rds_set (rd_lst (rda_cons (rd_var (i := 8)) (rda_cons (rd_var (i := 2)) (rda_cons (rd_var (i := 3)) (rda_cons (rd_var (i := 4)) rda_nil))))))
      (rds_frz (i := 6) (rds_ret (rd_call0 (E := E0) (rda_st (i := 0) (rda_lamV (j := 0) (LD := LamOkD P w K mg base TT 20) (lamOkD_of (k := 19) (N := ["told"]) (x := "told") (lamScope ⟨rfl, rfl, rfl, by decide +kernel, rfl, by decide +kernel, by decide +kernel⟩) (fun _ _ _ _ => rfl) (fun S9 c9 A9 outer9 s9 H9 f9 E9 hr => ⟨_, _, (pe_call c_read_ok (hr.mono (by decide)) rfl c_read_m c_read_k c_read_b .nil (passes_call (takes_of rfl rfl rfl rfl) (fun _ _ _ _ h => h)) (pa_cons (pe_ix ix_seq (pv 0) pe_int (fun _ _ => rfl)) (pa_cons (pe_ix ix_seq (pv 0) pe_int (fun _ _ => rfl)) (pa_cons (pe_ix ix_seq (pv 0) pe_int (fun _ _ => rfl)) (pa_cons (pe_ix ix_seq (pv 0) pe_int (fun _ _ => rfl)) pa_nil))))), (rd_callX (rda_cons (rd_op o2_ix (rd_var (i := 0)) rd_int) (rda_cons (rd_op o2_ix (rd_var (i := 0)) rd_int) (rda_cons (rd_op o2_ix (rd_var (i := 0)) rd_int) (rda_cons (rd_op o2_ix (rd_var (i := 0)) rd_int) rda_nil))))), fun _ _ _ _ h => h⟩)) (rda_cons (rd_var (i := 7)) (rda_cons (rd_var (i := 6)) rda_nil))))))))))))))))), ?_⟩
  rintro ss n P ⟨ks, rs, i, j, k, c, rfl, g1, g2, hi, hk, hc, hn, p⟩
  walk_at "dl"
  have hn' : n + 500 < 1099511627776 := hn
  have hj := (List.getElem?_eq_some_iff.mp hk).1
  have g1' := g1
  simp only [kindsB, Bool.and_eq_true, decide_eq_true_eq, List.all_eq_true] at g1'
  have g2' := g2
  simp only [rowsB, Bool.and_eq_true, decide_eq_true_eq, List.all_eq_true] at g2'
  obtain ⟨k3, kl, kh⟩ := betw_int (g1'.2 k (List.mem_of_getElem? hk))
  rw [k3] at hk hc
  have bi : betw 0 ((rs.length : Int) - 1) (.int (i : Int)) = true := by simp [betw]; omega
  have bj : betw 0 ((ks.length : Int) - 1) (.int (j : Int)) = true := by simp [betw]; omega
  have rowsC : ∀ r ∈ putC rs i j c, ∃ cs : List D, r = .tup cs ∧ cs.length = ks.length := fun r hr2 => by
    obtain ⟨cs', e, hl, _⟩ := rowB_inv (putC_rows g2'.1.2 hi hk hc r hr2)
    exact ⟨cs', e, hl⟩
  have ncx := cell_nx hc
  refine ⟨ks, rs, rfl, kinds_nx g1, rows_nx g2, g1, g2, ks, rs, i, j, c, rfl, g1, g2, hi, hj, ?_⟩
  refine ⟨_, _, _, _, rfl, rfl, rfl, ncx, .inl ⟨ks, rs, rfl, g1, g2, (fun z => by rw [bi] at z; cases z), fun _ => ⟨(fun z => by rw [bj] at z; cases z), fun i' j' k' ei ej _ ek' => ?_⟩⟩⟩
  obtain rfl : i' = i := by cases ei; rfl
  obtain rfl : j' = j := by cases ej; rfl
  rw [hk] at ek'
  cases ek'
  refine ⟨(fun z => by rw [hc] at z; cases z), fun _ => ⟨fun u eu => ?_, fun eu => ?_⟩⟩
  · have hu := putC_unread g2 hi eu
    subst hu
    refine ⟨T.r_AllUnread, _, vd_k, _, vd_r, ks.length, _, rfl, by omega, by rw [putC_len]; omega, rowsC, ?_⟩
    have hf := firstU_filter (m := ks.length) (rs := putC rs i' u c)
    rw [eu] at hf
    cases hF : (List.range ks.length).filter (colU (putC rs i' u c)) with
    | nil => rw [hF] at hf; cases hf
    | cons u' t =>
      have ok : okR (.int (u : Int)) := okR_int (by omega)
      refine ⟨trivial, true, T.i_AllUnread, T.fa_AllUnread, _, rfl, .int (u : Int), rfl, ok, .int (u : Int), rfl, ok, ?_⟩
      show P (.bl (id (decide (_ = _)))) n
      simp only [id, decide_true]
      exact p _ (by omega)
  · refine ⟨_, vd_k, _, vd_r, ks.length, _, rfl, by omega, by rw [putC_len]; omega, rowsC, ?_⟩
    have hf := firstU_filter (m := ks.length) (rs := putC rs i' j' c)
    rw [eu] at hf
    cases hF : (List.range ks.length).filter (colU (putC rs i' j' c)) with
    | cons u' t => rw [hF] at hf; cases hf
    | nil =>
      have gp := putC_good g2 hi hk hc eu
      refine ⟨_, _, _, _, rfl, rfl, rfl, ncx, .inl ⟨ks, rs, rfl, g1, g2, (fun z => by rw [bi] at z; cases z), fun _ => ⟨(fun z => by rw [bj] at z; cases z), fun i2 j2 k2 ei ej _ ek2 => ?_⟩⟩⟩
      obtain rfl : i2 = i' := by cases ei; rfl
      obtain rfl : j2 = j' := by cases ej; rfl
      refine ⟨(fun z => by rw [hk] at ek2; cases ek2; rw [hc] at z; cases z), fun _ => ⟨(fun u z => by rw [eu] at z; cases z), fun _ => ⟨ks, _, rfl, g1, gp, ?_⟩⟩⟩
      walk_at "dl"
      refine ⟨rfl, lim (by omega), fun bd n1 h1 hbd hni => ⟨_, vd_r, _, rfl, lim (by omega), fun bv n2 h2 nbv bv0 => ⟨by decide, _, vd_k, _, rfl, lim (by omega), fun bm n3 h3 nbm bm0 => ⟨by decide, _, vd_k, _, at_nat hk, ?_⟩⟩⟩⟩
      refine ⟨_, .inr rfl, by simp, by simp, lim (by omega), fun bc hbc n4 h4 => ⟨by decide, fun F1 hF1 => ?_⟩⟩
      have hbc2 : nx bc = true ∧ cellB (.int (toI k)) bc = false := by
        revert bc
        simp [nx, nxs, cellB]
        omega
      refine ⟨F1, _, _, _, rfl, hF1, by simp, by simp, by simp, lim (by omega), fun b hb => ?_, fun wrong m i0 d0 f0 hsub hhead hm P' XP' hX => ?_⟩
      · simp only [List.mem_cons, List.not_mem_nil, or_false] at hb
        rcases hb with rfl | rfl | rfl | rfl
        · exact ⟨0, _, _, rfl, by simp⟩
        · exact ⟨1, _, _, rfl, by simp⟩
        · exact ⟨2, _, _, rfl, by simp⟩
        · exact ⟨3, _, _, rfl, by simp⟩
      have W0 : cs.law_no_table = f0 → ∀ a b e, nx a = true → nx b = true → nx e = true → ds_read cs [.d bd, .d a, .d b, .d e] m P' XP' := fun hf a b e na nb ne => by
        subst hf
        exact ⟨_, _, _, _, rfl, na, nb, ne, .inr ⟨hbd, hni, hX _ _ _ _ ⟨T.r_BadTable, ds_law_no_table cs, hd_law_no_table, rfl, p _ (by omega)⟩⟩⟩
      have W1 : cs.law_no_valley = f0 → ∀ b e, nx b = true → nx e = true → ds_read cs [.d (tabD cs.Table ks rs), .d bv, .d b, .d e] m P' XP' := fun hf b e nb ne => by
        subst hf
        exact ⟨_, _, _, _, rfl, nbv, nb, ne, .inl ⟨ks, rs, rfl, g1, g2, fun _ => hX _ _ _ _ ⟨T.r_BadValley, ds_law_no_valley cs, hd_law_no_valley, rfl, p _ (by omega)⟩, fun z => by rw [bv0] at z; cases z⟩⟩
      have W2 : cs.law_no_matter = f0 → ∀ e, nx e = true → ds_read cs [.d (tabD cs.Table ks rs), .d (.int (i2 : Int)), .d bm, .d e] m P' XP' := fun hf e ne => by
        subst hf
        exact ⟨_, _, _, _, rfl, rfl, nbm, ne, .inl ⟨ks, rs, rfl, g1, g2, (fun z => by rw [bi] at z; cases z), fun _ => ⟨fun _ => hX _ _ _ _ ⟨T.r_BadMatter, ds_law_no_matter cs, hd_law_no_matter, rfl, p _ (by omega)⟩, fun i3 j3 k3' _ em _ ek3 => by
          subst em
          have := (List.getElem?_eq_some_iff.mp ek3).1
          simp [betw] at bm0
          omega⟩⟩⟩
      have W3 : cs.law_no_custom = f0 → ds_read cs [.d (tabD cs.Table ks rs), .d (.int (i2 : Int)), .d (.int (j2 : Int)), .d bc] m P' XP' := fun hf => by
        subst hf
        exact ⟨_, _, _, _, rfl, rfl, rfl, hbc2.1, .inl ⟨ks, rs, rfl, g1, g2, (fun z => by rw [bi] at z; cases z), fun _ => ⟨(fun z => by rw [bj] at z; cases z), fun i3 j3 k3' ei ej _ ek3 => by
          obtain rfl : j3 = j2 := by cases ej; rfl
          rw [hk] at ek3
          cases ek3
          exact ⟨fun _ => hX _ _ _ _ ⟨T.r_BadCustom, ds_law_no_custom cs, hd_law_no_custom, rfl, p _ (by omega)⟩, fun z => by rw [hbc2.2] at z; cases z⟩⟩⟩⟩
      have nbc := hbc2.1
      rcases sub_cons hsub with s1 | ⟨t1, rfl, s1⟩ <;> rcases sub_cons s1 with s2 | ⟨t2, rfl, s2⟩ <;> rcases sub_cons s2 with s3 | ⟨t3, rfl, s3⟩ <;> rcases sub_cons s3 with s4 | ⟨t4, rfl, s4⟩ <;> obtain rfl := sub_nil s4 <;>
        first
        | (cases hhead; done)
        | (have hf : cs.law_no_table = f0 := by (simp at hhead; exact hhead.2.2)
           exact ⟨_, at_zero, _, at_nat (j := 1) rfl, _, at_nat (j := 2) rfl, _, at_nat (j := 3) rfl, rfl, W0 hf _ _ _ (by first | assumption | rfl) (by first | assumption | rfl) (by first | assumption | rfl)⟩)
        | (have hf : cs.law_no_valley = f0 := by (simp at hhead; exact hhead.2.2)
           exact ⟨_, at_zero, _, at_nat (j := 1) rfl, _, at_nat (j := 2) rfl, _, at_nat (j := 3) rfl, rfl, W1 hf _ _ (by first | assumption | rfl) (by first | assumption | rfl)⟩)
        | (have hf : cs.law_no_matter = f0 := by (simp at hhead; exact hhead.2.2)
           exact ⟨_, at_zero, _, at_nat (j := 1) rfl, _, at_nat (j := 2) rfl, _, at_nat (j := 3) rfl, rfl, W2 hf _ (by first | assumption | rfl)⟩)
        | (have hf : cs.law_no_custom = f0 := by (simp at hhead; exact hhead.2.2)
           exact ⟨_, at_zero, _, at_nat (j := 1) rfl, _, at_nat (j := 2) rfl, _, at_nat (j := 3) rfl, rfl, W3 hf⟩)

abbrev s_law : Stmt := topS 74
theorem sc_law : FnScope ["script", "state", "lap", "scope", "item", "turn", "at", "spot", "few", "table_here", "bad_here"] ["script"] (defScope s_law) := ⟨rfl, rfl, rfl, by decide +kernel, rfl, by decide +kernel, by decide +kernel⟩
theorem ok_law {f c9 : Addr} {fd : FuncData} (T : Txt K mg cs tk0) (F : FunC K "law" "law" s_law f fd c9) (c_law_begun : Has P w K mg base CX0 1 "_law_begun" ["script"] (spBegun K)) (c_law_filled : Has P w K mg base CX0 2 "_law_filled" ["state", "scope"] (sp0 K TT ds_law_filled)) (c_law_wide : Has P w K mg base CX0 3 "_law_wide" ["state"] (sp0 K TT ds_law_wide)) (c_law_draw : Has P w K mg base CX0 1 "_law_draw" ["state", "size_here"] (sp0 K TT ds_law_draw)) (c_law_read_right : HasG P w K mg base CX0 29 "_law_read_right" ["state", "scope", "at", "spot", "item"] (sp0 K TT (ds_law_read_right cs))) (c_law_cell : Has P w K mg base CX0 2 "_law_cell" ["state", "size_here"] (sp0 K TT ds_law_cell)) (c_law_lonely : Has P w K mg base CX0 2 "_law_lonely" ["state", "scope"] (sp0 K TT ds_law_lonely)) (c_law_pick : Has P w K mg base CX0 2 "_law_pick" ["state", "several"] (sp0 K TT ds_law_pick)) (c_law_row_right : HasG P w K mg base CX0 12 "_law_row_right" ["state", "scope"] (sp0 K TT (ds_law_row_right cs))) (c_law_matter_right : HasG P w K mg base CX0 12 "_law_matter_right" ["state", "scope"] (sp0 K TT (ds_law_matter_right cs))) (c_law_bad_table : Has P w K mg base CX0 3 "_law_bad_table" ["state"] (sp0 K TT ds_law_bad_table)) (c_law_made : Has P w K mg base CX0 8 "_law_made" ["scope"] (sp0 K TT (ds_law_made cs))) (c_law_no_table : Has P w K mg base CX0 1 "_law_no_table" ["caught"] (sp0 K TT (ds_law_no_table cs))) (c_with_row : HasF P w K mg base (L2.CX P w) 8 "with_row" s_with_row ["table", "row"] (spX K TT (ds_with_row cs))) (c_with_matter : HasF P w K mg base (L2.CX P w) 8 "with_matter" s_with_matter ["table", "kind", "column"] (spX K TT (ds_with_matter cs))) (c_law_same : HasG P w K mg base CX0 1 "_law_same" ["thing", "scope"] (sp0 K TT (ds_law_same cs))) (DC : DefAt K mg "_law_caught" s_law_caught ["work"]) (MA : MakesAt base mg TT "law.<locals>.<lambda>" c9) : FnG P w K mg base CX0 33 f fd ["script"] (spLaw K TT) := by
  obtain ⟨_, _, c_law_begun_ok, c_law_begun_m, c_law_begun_k, c_law_begun_b⟩ := c_law_begun
  obtain ⟨_, _, c_law_filled_ok, c_law_filled_m, c_law_filled_k, c_law_filled_b⟩ := c_law_filled
  obtain ⟨_, _, c_law_wide_ok, c_law_wide_m, c_law_wide_k, c_law_wide_b⟩ := c_law_wide
  obtain ⟨_, _, c_law_draw_ok, c_law_draw_m, c_law_draw_k, c_law_draw_b⟩ := c_law_draw
  obtain ⟨_, _, c_law_read_right_ok, c_law_read_right_m, c_law_read_right_k, c_law_read_right_b⟩ := c_law_read_right
  obtain ⟨_, _, c_law_cell_ok, c_law_cell_m, c_law_cell_k, c_law_cell_b⟩ := c_law_cell
  obtain ⟨_, _, c_law_lonely_ok, c_law_lonely_m, c_law_lonely_k, c_law_lonely_b⟩ := c_law_lonely
  obtain ⟨_, _, c_law_pick_ok, c_law_pick_m, c_law_pick_k, c_law_pick_b⟩ := c_law_pick
  obtain ⟨_, _, c_law_row_right_ok, c_law_row_right_m, c_law_row_right_k, c_law_row_right_b⟩ := c_law_row_right
  obtain ⟨_, _, c_law_matter_right_ok, c_law_matter_right_m, c_law_matter_right_k, c_law_matter_right_b⟩ := c_law_matter_right
  obtain ⟨_, _, c_law_bad_table_ok, c_law_bad_table_m, c_law_bad_table_k, c_law_bad_table_b⟩ := c_law_bad_table
  obtain ⟨_, _, c_law_made_ok, c_law_made_m, c_law_made_k, c_law_made_b⟩ := c_law_made
  obtain ⟨_, _, c_law_no_table_ok, c_law_no_table_m, c_law_no_table_k, c_law_no_table_b⟩ := c_law_no_table
  obtain ⟨_, _, c_with_row_ok, c_with_row_m, c_with_row_k, c_with_row_b, c_with_row_F⟩ := c_with_row
  obtain ⟨_, _, c_with_matter_ok, c_with_matter_m, c_with_matter_k, c_with_matter_b, c_with_matter_F⟩ := c_with_matter
  obtain ⟨_, _, c_law_same_ok, c_law_same_m, c_law_same_k, c_law_same_b⟩ := c_law_same
  obtain ⟨oc, od, kV, doc, pm, an, ct, osl, rfl, lk, hcd⟩ := F.ex
  refine ⟨fun vs H Q E h => by obtain ⟨a, ns, rfl, _⟩ := h; rfl, fun A hg hr0 outer s H args us vs Q E h r b e => LamX.run_ofS lk hcd sc_law hr0 e b r (by obtain ⟨a, ns, rfl, _⟩ := h; rfl) fun hr => ?_⟩
  obtain ⟨a, ns, rfl, hS, hl, tabs, q⟩ := h
  refine ⟨_, PSs.nox (X := cxOf CX0 P w K mg base ["script", "state", "lap", "scope", "item", "turn", "at", "spot", "few", "table_here", "bad_here"] "law" (defScope s_law) f (.ref c9) A outer s H E) ((pss_cons (ps_set (i := 1) sc_law.nd rfl (by first | exact Or.inl rfl | exact Or.inr rfl) (pe_call c_law_begun_ok (hr.mono (by decide)) rfl c_law_begun_m c_law_begun_k c_law_begun_b .nil pass0 (pa_cons (pv 0) pa_nil)))
      (pss_cons (ps_for PassesOwn.never rfl (pi_range1 (by rfl) T.n_range (pa_cons (pe_op op_addU pe_int (pe_callB (call_rMin2 rfl) (by rfl) T.n_min (by decide +kernel) (pa_cons (pe_callB call_lenU (by rfl) T.n_len (by decide +kernel) (pa_cons (pv 0) pa_nil)) (pa_cons pe_int pa_nil)))) pa_nil)) (pg_name (i := 2) sc_law.nd rfl (by first | exact Or.inl rfl | exact Or.inr rfl)) (pss_cons (ps_set (i := 3) sc_law.nd rfl (by first | exact Or.inl rfl | exact Or.inr rfl) (pe_call c_law_filled_ok (hr.mono (by decide)) rfl c_law_filled_m c_law_filled_k c_law_filled_b .nil pass0 (pa_cons (pv 1) (pa_cons (pe_call c_law_wide_ok (hr.mono (by decide)) rfl c_law_wide_m c_law_wide_k c_law_wide_b .nil pass0 (pa_cons (pv 1) pa_nil)) pa_nil))))
      (pss_cons (ps_par (i := 6) (j := 7) rfl sc_law.nd rfl rfl (by decide) rfl rfl (pa_cons (pe_call c_law_draw_ok (hr.mono (by decide)) rfl c_law_draw_m c_law_draw_k c_law_draw_b .nil pass0 (pa_cons (pv 1) (pa_cons (pe_callB call_lenU (by rfl) T.n_len (by decide +kernel) (pa_cons (pe_dget (hu_of hr) (pv 3) pe_str (fun _ _ => rfl)) pa_nil)) pa_nil))) (pa_cons (pe_call c_law_draw_ok (hr.mono (by decide)) rfl c_law_draw_m c_law_draw_k c_law_draw_b .nil pass0 (pa_cons (pv 1) (pa_cons (pe_callB call_lenU (by rfl) T.n_len (by decide +kernel) (pa_cons (pe_dget (hu_of hr) (pv 3) pe_str (fun _ _ => rfl)) pa_nil)) pa_nil))) pa_nil)) (by rfl))
      (pss_cons (ps_if (pt_not (pt_val (pe_callG c_law_read_right_ok hg (hr.mono (by decide)) rfl c_law_read_right_m c_law_read_right_k c_law_read_right_b .nil pass0 (pa_cons (pv 1) (pa_cons (pv 3) (pa_cons (pv 6) (pa_cons (pv 7) (pa_cons (pe_call c_law_cell_ok (hr.mono (by decide)) rfl c_law_cell_m c_law_cell_k c_law_cell_b .nil pass0 (pa_cons (pv 1) (pa_cons (pe_ix ix_seq (pe_dget (hu_of hr) (pv 3) pe_str (fun _ _ => rfl)) (pv 7) (fun _ _ => rfl)) pa_nil))) pa_nil)))))))) (pss_one (ps_ret pe_bl)) pss_nil)
      (pss_cons (ps_asg (pe_call c_law_lonely_ok (hr.mono (by decide)) rfl c_law_lonely_m c_law_lonely_k c_law_lonely_b .nil pass0 (pa_cons (pv 1) (pa_cons (pv 3) pa_nil))) (pg_tup rfl (pgs_cons (pg_name (i := 8) sc_law.nd rfl (by first | exact Or.inl rfl | exact Or.inr rfl)) (pgs_cons (pg_name (i := 6) sc_law.nd rfl (by first | exact Or.inl rfl | exact Or.inr rfl)) (pgs_cons (pg_name (i := 7) sc_law.nd rfl (by first | exact Or.inl rfl | exact Or.inr rfl)) pgs_nil)))))
      (pss_cons (ps_set (i := 4) sc_law.nd rfl (by first | exact Or.inl rfl | exact Or.inr rfl) (pe_call c_law_pick_ok (hr.mono (by decide)) rfl c_law_pick_m c_law_pick_k c_law_pick_b .nil pass0 (pa_cons (pv 1) (pa_cons (pe_lst (pa_cons pe_non (pa_cons (pe_call c_law_draw_ok (hr.mono (by decide)) rfl c_law_draw_m c_law_draw_k c_law_draw_b .nil pass0 (pa_cons (pv 1) (pa_cons (pe_ix ix_seq (pe_dget (hu_of hr) (pv 3) pe_str (fun _ _ => rfl)) (pv 7) (fun _ _ => rfl)) pa_nil))) pa_nil))) pa_nil))))
      (pss_cons (ps_if (PW.pt (pw_or (pt_not (pt_val (pe_callG c_law_read_right_ok hg (hr.mono (by decide)) rfl c_law_read_right_m c_law_read_right_k c_law_read_right_b .nil pass0 (pa_cons (pv 1) (pa_cons (pv 8) (pa_cons (pv 6) (pa_cons (pv 7) (pa_cons (pv 4) pa_nil)))))))) (pw_or1 (pt_not (pt_val (pe_callG c_law_read_right_ok hg (hr.mono (by decide)) rfl c_law_read_right_m c_law_read_right_k c_law_read_right_b .nil pass0 (pa_cons (pv 1) (pa_cons (pv 8) (pa_cons (pv 6) (pa_cons (pv 7) (pa_cons pe_non pa_nil))))))))))) (pss_one (ps_ret pe_bl)) pss_nil)
      (pss_cons (ps_for PassesOwn.never rfl (pi_range1 (by rfl) T.n_range (pa_cons pe_int pa_nil)) (pg_name (i := 5) sc_law.nd rfl (by first | exact Or.inl rfl | exact Or.inr rfl)) (pss_one (ps_if (PW.pt (pw_or (pt_not (pt_val (pe_callG c_law_row_right_ok hg (hr.mono (by decide)) rfl c_law_row_right_m c_law_row_right_k c_law_row_right_b .nil pass0 (pa_cons (pv 1) (pa_cons (pv 3) pa_nil))))) (pw_or1 (pt_not (pt_val (pe_callG c_law_matter_right_ok hg (hr.mono (by decide)) rfl c_law_matter_right_m c_law_matter_right_k c_law_matter_right_b .nil pass0 (pa_cons (pv 1) (pa_cons (pv 3) pa_nil)))))))) (pss_one (ps_ret pe_bl)) pss_nil)))
      (pss_cons (ps_asg (pe_tup (pa_cons (pe_call c_law_made_ok (hr.mono (by decide)) rfl c_law_made_m c_law_made_k c_law_made_b .nil pass0 (pa_cons (pv 3) pa_nil)) (pa_cons (pe_call c_law_bad_table_ok (hr.mono (by decide)) rfl c_law_bad_table_m c_law_bad_table_k c_law_bad_table_b .nil pass0 (pa_cons (pv 1) pa_nil)) pa_nil))) (pg_tup rfl (pgs_cons (pg_name (i := 9) sc_law.nd rfl (by first | exact Or.inl rfl | exact Or.inr rfl)) (pgs_cons (pg_name (i := 10) sc_law.nd rfl (by first | exact Or.inl rfl | exact Or.inr rfl)) pgs_nil))))
      (pss_cons (ps_if (pt_not (pt_val (pe_call c_law_no_table_ok (hr.mono (by decide)) rfl c_law_no_table_m c_law_no_table_k c_law_no_table_b .nil pass0 (pa_cons (lam_call (k := 30) DC sc_law_caught (fun g cdg => caught_gives rfl T.g_FoundError rfl rfl rfl) MA rfl (hr.mono (by decide)) (LamX.lamS_by (sc := defScope s_law) (by decide +kernel)) rfl rfl (fun _ _ _ _ _ => rfl) (fun A9 outer9 s9 H9 E9 f9 c9 hr => (pe_call c_with_row_ok (hr.mono (by decide)) rfl c_with_row_m c_with_row_k c_with_row_b .nil (passes_call (takes_of rfl rfl rfl rfl) (fun _ _ _ _ h => h)) (pa_cons (pv 10) (pa_cons (pe_ix ix_seq (pe_dget (hu_of hr) (pv 3) pe_str (fun _ _ => rfl)) pe_int (fun _ _ => rfl)) pa_nil))))) pa_nil)))) (pss_one (ps_ret pe_bl)) pss_nil)
      (pss_cons (ps_if (pt_not (pt_val (pe_call c_law_no_table_ok (hr.mono (by decide)) rfl c_law_no_table_m c_law_no_table_k c_law_no_table_b .nil pass0 (pa_cons (lam_call (k := 30) DC sc_law_caught (fun g cdg => caught_gives rfl T.g_FoundError rfl rfl rfl) MA rfl (hr.mono (by decide)) (LamX.lamS_by (sc := defScope s_law) (by decide +kernel)) rfl rfl (fun _ _ _ _ _ => rfl) (fun A9 outer9 s9 H9 E9 f9 c9 hr => (pe_call c_with_matter_ok (hr.mono (by decide)) rfl c_with_matter_m c_with_matter_k c_with_matter_b .nil (passes_call (takes_of rfl rfl rfl rfl) (fun _ _ _ _ h => h)) (pa_cons (pv 10) (pa_cons pe_int (pa_cons (pe_tup (pa_cons pe_int pa_nil)) pa_nil)))))) pa_nil)))) (pss_one (ps_ret pe_bl)) pss_nil)
      (pss_one (ps_if (pt_not (pt_val (pe_callG c_law_same_ok hg (hr.mono (by decide)) rfl c_law_same_m c_law_same_k c_law_same_b .nil pass0 (pa_cons (pv 9) (pa_cons (pv 3) pa_nil))))) (pss_one (ps_ret pe_bl)) pss_nil)))))))))))))
      (pss_one (ps_ret pe_bl))))), law_body (by decide) hS hl tabs q fun S => ⟨_, (rds_seq (rds_for (rdi_range1 (rda_cons (rd_op o2_add rd_int (rd_cb cal_min2 (rda_cons (rd_cb cal_len (rda_cons (rd_var (i := 0)) rda_nil)) (rda_cons rd_int rda_nil)))) rda_nil)) (rdg_name (vs := [2]) (by decide)) (rds_seq (rds_set (rd_call0 (E := E0) (rda_st (i := 1) (rda_cons (rd_call0 (E := E0) (rda_st (i := 1) rda_nil)) rda_nil))))
      (rds_seq (rds_par (i := 6) (j := 7) (rda_cons (rd_call0 (E := E0) (rda_st (i := 1) (rda_cons (rd_cb cal_len (rda_cons (rd_dget (rd_var (i := 3)) rd_str) rda_nil)) rda_nil))) (rda_cons (rd_call0 (E := E0) (rda_st (i := 1) (rda_cons (rd_cb cal_len (rda_cons (rd_dget (rd_var (i := 3)) rd_str) rda_nil)) rda_nil))) rda_nil)))
      (rds_seq (rds_if (rdt_not (rdt_B (rd_call0 (E := E0) (rda_st (i := 1) (rda_cons (rd_var (i := 3)) (rda_cons (rd_var (i := 6)) (rda_cons (rd_var (i := 7)) (rda_cons (rd_call0 (E := E0) (rda_st (i := 1) (rda_cons (rd_op o2_ix (rd_dget (rd_var (i := 3)) rd_str) (rd_var (i := 7))) rda_nil))) rda_nil)))))))) (rds_ret rd_bl) rds_next)
      (rds_seq (rds_asgG (rd_call0 (E := E0) (rda_st (i := 1) (rda_cons (rd_var (i := 3)) rda_nil))) (rdg_three (vs := [8, 6, 7]) (by decide) (by decide) (by decide)))
      (rds_seq (rds_set (rd_call0 (E := E0) (rda_st (i := 1) (rda_cons (rd_lst (rda_cons rd_non (rda_cons (rd_call0 (E := E0) (rda_st (i := 1) (rda_cons (rd_op o2_ix (rd_dget (rd_var (i := 3)) rd_str) (rd_var (i := 7))) rda_nil))) rda_nil))) rda_nil))))
      (rds_seq (rds_if (rdt_or (rdt_not (rdt_B (rd_call0 (E := E0) (rda_st (i := 1) (rda_cons (rd_var (i := 8)) (rda_cons (rd_var (i := 6)) (rda_cons (rd_var (i := 7)) (rda_cons (rd_var (i := 4)) rda_nil)))))))) (rdt_not (rdt_B (rd_call0 (E := E0) (rda_st (i := 1) (rda_cons (rd_var (i := 8)) (rda_cons (rd_var (i := 6)) (rda_cons (rd_var (i := 7)) (rda_cons rd_non rda_nil))))))))) (rds_ret rd_bl) rds_next)
      (rds_seq (rds_for (rdi_range1 (rda_cons rd_int rda_nil)) (rdg_name (vs := [5]) (by decide)) (rds_if (rdt_or (rdt_not (rdt_B (rd_call0 (E := E0) (rda_st (i := 1) (rda_cons (rd_var (i := 3)) rda_nil))))) (rdt_not (rdt_B (rd_call0 (E := E0) (rda_st (i := 1) (rda_cons (rd_var (i := 3)) rda_nil)))))) (rds_ret rd_bl) rds_next))
      (rds_seq (rds_asgG (rd_tup (rda_cons (rd_call0 (E := E0) (rda_cons (rd_var (i := 3)) rda_nil)) (rda_cons (rd_call0 (E := E0) (rda_st (i := 1) rda_nil)) rda_nil))) (rdg_two (vs := [9, 10]) (by decide) (by decide)))
      (rds_seq (rds_if (rdt_not (rdt_B (rd_call0 (E := E0) (rda_cons (rd_lam fun _ => (rd_callX (rda_cons (rd_var (i := 10)) (rda_cons (rd_op o2_ix (rd_dget (rd_var (i := 3)) rd_str) rd_int) rda_nil)))) rda_nil)))) (rds_ret rd_bl) rds_next)
      (rds_seq (rds_if (rdt_not (rdt_B (rd_call0 (E := E0) (rda_cons (rd_lam fun _ => (rd_callX (rda_cons (rd_var (i := 10)) (rda_cons rd_int (rda_cons (rd_tup (rda_cons rd_int rda_nil)) rda_nil))))) rda_nil)))) (rds_ret rd_bl) rds_next)
      (rds_if (rdt_not (rdt_B (rd_call0 (E := E0) (rda_cons (rd_var (i := 9)) (rda_cons (rd_var (i := 3)) rda_nil))))) (rds_ret rd_bl) rds_next))))))))))))
      (rds_ret rd_bl)), ?_⟩⟩
  walk_at "dl"
  obtain ⟨m, hm, hm2⟩ : ∃ m : Nat, ((2 : Int) + if 5 < ((List.map D.int ns).length : Int) then 5 else ((List.map D.int ns).length : Int)) = (m : Int) ∧ m ≤ 8 := by
    refine ⟨2 + min ns.length 5, ?_, by omega⟩
    rw [List.length_map]
    split <;> omega
  rw [hm]
  refine ⟨by omega, by omega, fun i ρ n => n ≤ 4000 * i ∧ ∃ u2 u3 u4 u5 u6 u7 u8 u9 u10, ρ = [.d (.lst (ns.map D.int)), .st, u2, u3, u4, u5, u6, u7, u8, u9, u10], ⟨by omega, _, _, _, _, _, _, _, _, _, rfl⟩, ?_, ?_⟩
  · rintro i x ρ n hx ⟨hn, u2, u3, u4, u5, u6, u7, u8, u9, u10, rfl⟩
    obtain ⟨hi, rfl⟩ := range_get hx
    clear hx hm
    walk_at "dl"
    refine ⟨rfl, lim (by omega), fun ks0 rs0 n1 h1 _ _ gk0 gr0 => ⟨ks0, rs0, rfl, gk0, gr0, lim (by omega), fun ks rs n2 h2 gk gr => ?_⟩⟩
    have nk := kinds_nx gk
    have nr := rows_nx gr
    have gr' := gr
    simp only [rowsB, Bool.and_eq_true, decide_eq_true_eq, List.all_eq_true] at gr'
    have gk' := gk
    simp only [kindsB, Bool.and_eq_true, decide_eq_true_eq, List.all_eq_true] at gk'
    walk_at "dl"
    refine ⟨_, vd_r, _, rfl, by omega, by omega, lim (by omega), fun a n3 a0 a1 h3 => ⟨_, vd_k, _, rfl, by omega, by omega, lim (by omega), fun b n4 b0 b1 h4 => ?_⟩⟩
    obtain ⟨ia, rfl⟩ := Int.eq_ofNat_of_zero_le a0
    obtain ⟨sp, rfl⟩ := Int.eq_ofNat_of_zero_le b0
    have hia : ia < rs.length := by omega
    have hsp : sp < ks.length := by omega
    have ek : ks[sp]? = some ks[sp] := List.getElem?_eq_getElem hsp
    obtain ⟨k3, kl, kh⟩ := betw_int (gk'.2 ks[sp] (List.getElem_mem hsp))
    rw [k3] at ek
    refine ⟨_, vd_k, _, at_nat ek, _, rfl, kl, kh, lim (by omega), fun it n5 h5 hit => ⟨ks, rs, ia, sp, _, it, rfl, gk, gr, hia, ek, hit, lim (by omega), fun n6 h6 => ?_⟩⟩
    walk_at "dl"
    refine ⟨ks, rs, rfl, gk, gr, lim (by omega), fun rs2 i2 j2 n7 h7 gr2 hi2 hj2 => ?_⟩
    have ek2 : ks[j2]? = some ks[j2] := List.getElem?_eq_getElem hj2
    obtain ⟨k4, kl2, kh2⟩ := betw_int (gk'.2 ks[j2] (List.getElem_mem hj2))
    rw [k4] at ek2
    refine ⟨_, vd_k, _, at_nat ek2, _, rfl, by omega, by omega, lim (by omega), fun r n8 r0 r1 h8 => ⟨_, .inr rfl, by simp, by simp, lim (by omega), fun it2 hit2 n9 h9 => ?_⟩⟩
    have hc2 : cellB (.int (toI ks[j2])) it2 = true := by
      simp only [List.mem_cons, List.not_mem_nil, or_false] at hit2
      rcases hit2 with rfl | rfl
      · rfl
      · simp [cellB]
        omega
    refine ⟨ks, rs2, i2, j2, _, it2, rfl, gk, gr2, hi2, ek2, hc2, lim (by omega), fun n10 h10 => ?_⟩
    walk_at "dl"
    refine ⟨ks, rs2, i2, j2, _, .non, rfl, gk, gr2, hi2, ek2, rfl, lim (by omega), fun n11 h11 => ?_⟩
    walk_at "dl"
    refine ⟨by decide, by decide, fun i3 ρ m => m ≤ n11 + 150 * i3 ∧ ∃ w5 w9 w10, ρ = [.d (.lst (ns.map D.int)), .st, .d (.int (i : Int)), .d (dicT ks rs), .d it2, w5, .d (.int (i2 : Int)), .d (.int (j2 : Int)), .d (dicT ks rs2), w9, w10], ⟨by omega, _, _, _, rfl⟩, ?_, ?_⟩
    · rintro i3 x ρ m2 hx2 ⟨hm3, w5, w9, w10, rfl⟩
      have hi3 : i3 < 3 := by
        have := (List.getElem?_eq_some_iff.mp hx2).1
        simpa [rangeD] using this
      clear hx2
      walk_at "dl"
      refine ⟨ks, rs, rfl, gk, gr, lim (by omega), fun p1 hp1 => ?_⟩
      walk_at "dl"
      refine ⟨ks, rs, rfl, gk, gr, lim (by omega), fun p2 hp2 => ?_⟩
      walk_at "dl"
      exact ⟨by omega, _, _, _, rfl⟩
    · rintro ρ m2 ⟨hm3, w5, w9, w10, rfl⟩
      have hm3' : m2 ≤ n11 + 450 := by
        have e4 : (rangeD 0 (Int.toNat 3)).length = 3 := by simp [rangeD]
        rw [e4] at hm3
        exact hm3
      walk_at "dl"
      have h0 : 0 < rs.length := by omega
      have nrow : nx rs[0] = true := nxs_mem nr (List.getElem_mem h0)
      refine ⟨ks, rs, rfl, nk, nr, gk, gr, rfl, lim (by omega), fun bd p1 hp1 hbd hni => ?_⟩
      walk_at "dl"
      refine ⟨_, vd_r, _, at_nat (j := 0) (List.getElem?_eq_getElem h0), _, _, rfl, nrow, .inr ⟨hbd, hni, T.r_BadTable, rfl, ?_⟩⟩
      walk_at "dl"
      refine ⟨_, _, _, rfl, rfl, rfl, .inr ⟨hbd, hni, T.r_BadTable, rfl, ?_⟩⟩
      walk_at "dl"
      refine ⟨ks, rs, rfl, gk, gr, ?_⟩
      walk_at "dl"
      exact ⟨by omega, _, _, _, _, _, _, _, _, _, rfl⟩
  · rintro ρ n ⟨hn, _⟩
    trivial

end
end Lw
namespace Lw
open L2 PySem DL
open He (ga ma fAd cT)
abbrev s_AllUnread_init : Stmt := inClass (topS 2) 0
theorem sc_AllUnread_init : FnScope ["self", "matter"] ["self", "matter"] (defScope s_AllUnread_init) := ⟨rfl, rfl, rfl, by decide +kernel, rfl, by decide +kernel, by decide +kernel⟩
abbrev s_TooMany_init : Stmt := inClass (topS 12) 0
theorem sc_TooMany_init : FnScope ["self", "most"] ["self", "most"] (defScope s_TooMany_init) := ⟨rfl, rfl, rfl, by decide +kernel, rfl, by decide +kernel, by decide +kernel⟩
def dfs : List He.DefD := [
  ⟨("is_number", none), "is_number", "is_number", defArgs s_is_number, defBody s_is_number, defScope s_is_number, [], []⟩,
  ⟨("is_between", none), "is_between", "is_between", defArgs s_is_between, defBody s_is_between, defScope s_is_between, [], []⟩,
  ⟨("is_kind", none), "is_kind", "is_kind", defArgs s_is_kind, defBody s_is_kind, defScope s_is_kind, [], []⟩,
  ⟨("_are_kinds", none), "_are_kinds", "_are_kinds", defArgs s_are_kinds, defBody s_are_kinds, defScope s_are_kinds, [], []⟩,
  ⟨("is_cell", none), "is_cell", "is_cell", defArgs s_is_cell, defBody s_is_cell, defScope s_is_cell, [], []⟩,
  ⟨("_is_row_for", none), "_is_row_for", "_is_row_for", defArgs s_is_row_for, defBody s_is_row_for, defScope s_is_row_for, [], []⟩,
  ⟨("first_unread", none), "first_unread", "first_unread", defArgs s_first_unread, defBody s_first_unread, defScope s_first_unread, [], []⟩,
  ⟨("_are_rows", none), "_are_rows", "_are_rows", defArgs s_are_rows, defBody s_are_rows, defScope s_are_rows, [], []⟩,
  ⟨("_law_is_whole", none), "_law_is_whole", "_law_is_whole", defArgs s_law_is_whole, defBody s_law_is_whole, defScope s_law_is_whole, [], []⟩,
  ⟨("_law_is_below", none), "_law_is_below", "_law_is_below", defArgs s_law_is_below, defBody s_law_is_below, defScope s_law_is_below, [], []⟩,
  ⟨("_law_less", none), "_law_less", "_law_less", defArgs s_law_less, defBody s_law_less, defScope s_law_less, [], []⟩,
  ⟨("_law_put", none), "_law_put", "_law_put", defArgs s_law_put, defBody s_law_put, defScope s_law_put, [], []⟩,
  ⟨("_law_is_row", none), "_law_is_row", "_law_is_row", defArgs s_law_is_row, defBody s_law_is_row, defScope s_law_is_row, [], []⟩,
  ⟨("_law_draw", none), "_law_draw", "_law_draw", defArgs s_law_draw, defBody s_law_draw, defScope s_law_draw, [], []⟩,
  ⟨("_law_pick", none), "_law_pick", "_law_pick", defArgs s_law_pick, defBody s_law_pick, defScope s_law_pick, [], []⟩,
  ⟨("_law_bad_table", none), "_law_bad_table", "_law_bad_table", defArgs s_law_bad_table, defBody s_law_bad_table, defScope s_law_bad_table, [], []⟩,
  ⟨("_law_cell", none), "_law_cell", "_law_cell", defArgs s_law_cell, defBody s_law_cell, defScope s_law_cell, [], []⟩,
  ⟨("_law_first_unread", none), "_law_first_unread", "_law_first_unread", defArgs s_law_first_unread, defBody s_law_first_unread, defScope s_law_first_unread, [], []⟩,
  ⟨("_law_spoilt_row", none), "_law_spoilt_row", "_law_spoilt_row", defArgs s_law_spoilt_row, defBody s_law_spoilt_row, defScope s_law_spoilt_row, [], []⟩,
  ⟨("Table", some "__init__"), "__init__", "Table.__init__", defArgs s_Table_init, defBody s_Table_init, defScope s_Table_init, [], []⟩,
  ⟨("check_table", none), "check_table", "check_table", defArgs s_check_table, defBody s_check_table, defScope s_check_table, [], []⟩,
  ⟨("is_row", none), "is_row", "is_row", defArgs s_is_row, defBody s_is_row, defScope s_is_row, [], []⟩,
  ⟨("_law_made", none), "_law_made", "_law_made", defArgs s_law_made, defBody s_law_made, defScope s_law_made, [], []⟩,
  ⟨("_law_no_table", none), "_law_no_table", "_law_no_table", defArgs s_law_no_table, defBody s_law_no_table, defScope s_law_no_table, [], []⟩,
  ⟨("_law_same", none), "_law_same", "_law_same", defArgs s_law_same, defBody s_law_same, defScope s_law_same, [], []⟩,
  ⟨("_law_wide", none), "_law_wide", "_law_wide", defArgs s_law_wide, defBody s_law_wide, defScope s_law_wide, [], []⟩,
  ⟨("_law_begun", none), "_law_begun", "_law_begun", defArgs s_law_begun, defBody s_law_begun, defScope s_law_begun, [], []⟩,
  ⟨("_law_refused", none), "_law_refused", "_law_refused", defArgs s_law_refused, defBody s_law_refused, defScope s_law_refused, [], []⟩,
  ⟨("_with_rows", none), "_with_rows", "_with_rows", defArgs s_with_rows, defBody s_with_rows, defScope s_with_rows, [], []⟩,
  ⟨("_law_no_row", none), "_law_no_row", "_law_no_row", defArgs s_law_no_row, defBody s_law_no_row, defScope s_law_no_row, [], []⟩,
  ⟨("_law_no_valley", none), "_law_no_valley", "_law_no_valley", defArgs s_law_no_valley, defBody s_law_no_valley, defScope s_law_no_valley, [], []⟩,
  ⟨("_law_no_matter", none), "_law_no_matter", "_law_no_matter", defArgs s_law_no_matter, defBody s_law_no_matter, defScope s_law_no_matter, [], []⟩,
  ⟨("_law_no_custom", none), "_law_no_custom", "_law_no_custom", defArgs s_law_no_custom, defBody s_law_no_custom, defScope s_law_no_custom, [], []⟩,
  ⟨("_law_no_kind", none), "_law_no_kind", "_law_no_kind", defArgs s_law_no_kind, defBody s_law_no_kind, defScope s_law_no_kind, [], []⟩,
  ⟨("_law_no_column", none), "_law_no_column", "_law_no_column", defArgs s_law_no_column, defBody s_law_no_column, defScope s_law_no_column, [], []⟩,
  ⟨("_law_no_room", none), "_law_no_room", "_law_no_room", defArgs s_law_no_room, defBody s_law_no_room, defScope s_law_no_room, [], []⟩,
  ⟨("_law_bad_number", none), "_law_bad_number", "_law_bad_number", defArgs s_law_bad_number, defBody s_law_bad_number, defScope s_law_bad_number, [], []⟩,
  ⟨("_with_cell", none), "_with_cell", "_with_cell", defArgs s_with_cell, defBody s_with_cell, defScope s_with_cell, [], []⟩,
  ⟨("check_valley", none), "check_valley", "check_valley", defArgs s_check_valley, defBody s_check_valley, defScope s_check_valley, [], []⟩,
  ⟨("check_matter", none), "check_matter", "check_matter", defArgs s_check_matter, defBody s_check_matter, defScope s_check_matter, [], []⟩,
  ⟨("with_row", none), "with_row", "with_row", defArgs s_with_row, defBody s_with_row, defScope s_with_row, [], []⟩,
  ⟨("_is_column", none), "_is_column", "_is_column", defArgs s_is_column, defBody s_is_column, defScope s_is_column, [], []⟩,
  ⟨("_law_is_column", none), "_law_is_column", "_law_is_column", defArgs s_law_is_column, defBody s_law_is_column, defScope s_law_is_column, [], []⟩,
  ⟨("with_matter", none), "with_matter", "with_matter", defArgs s_with_matter, defBody s_with_matter, defScope s_with_matter, [], []⟩,
  ⟨("read", none), "read", "read", defArgs s_read, defBody s_read, defScope s_read, [], []⟩,
  ⟨("_law_with_row", none), "_law_with_row", "_law_with_row", defArgs s_law_with_row, defBody s_law_with_row, defScope s_law_with_row, [], []⟩,
  ⟨("_law_with_matter", none), "_law_with_matter", "_law_with_matter", defArgs s_law_with_matter, defBody s_law_with_matter, defScope s_law_with_matter, [], []⟩,
  ⟨("_law_with_cell", none), "_law_with_cell", "_law_with_cell", defArgs s_law_with_cell, defBody s_law_with_cell, defScope s_law_with_cell, [], []⟩,
  ⟨("_law_lonely", none), "_law_lonely", "_law_lonely", defArgs s_law_lonely, defBody s_law_lonely, defScope s_law_lonely, [], []⟩,
  ⟨("_law_filled", none), "_law_filled", "_law_filled", defArgs s_law_filled, defBody s_law_filled, defScope s_law_filled, [], []⟩,
  ⟨("_law_row_right", none), "_law_row_right", "_law_row_right", defArgs s_law_row_right, defBody s_law_row_right, defScope s_law_row_right, [], []⟩,
  ⟨("_law_matter_right", none), "_law_matter_right", "_law_matter_right", defArgs s_law_matter_right, defBody s_law_matter_right, defScope s_law_matter_right, [], []⟩,
  ⟨("_law_read_right", none), "_law_read_right", "_law_read_right", defArgs s_law_read_right, defBody s_law_read_right, defScope s_law_read_right, [], []⟩,
  ⟨("law", none), "law", "law", defArgs s_law, defBody s_law, defScope s_law, [], []⟩,
  ⟨("_law_caught", none), "_law_caught", "_law_caught", defArgs s_law_caught, defBody s_law_caught, defScope s_law_caught, [], []⟩,
  ⟨("AllUnread", some "__init__"), "__init__", "AllUnread.__init__", defArgs s_AllUnread_init, defBody s_AllUnread_init, defScope s_AllUnread_init, [], []⟩,
  ⟨("TooMany", some "__init__"), "__init__", "TooMany.__init__", defArgs s_TooMany_init, defBody s_TooMany_init, defScope s_TooMany_init, [], []⟩]
def fcs : List He.Fa := [.free "abs", .free "all", .free "any", .free "bool", .free "int", .free "isinstance", .free "len", .free "list", .free "min", .free "range", .free "repr", .free "tuple", .free "zip", .int "MOST_KIND" 6, .int "MOST_MATTERS" 8, .int "MOST_VALLEYS" 12, .glo "AllUnread", .glo "BadColumn", .glo "BadCustom", .glo "BadKind", .glo "BadKinds", .glo "BadMatter", .glo "BadRow", .glo "BadRows", .glo "BadTable", .glo "BadValley", .glo "FoundError", .glo "Table", .glo "TooMany", .glo "is_number", .glo "is_between", .glo "is_kind", .glo "_are_kinds", .glo "is_cell", .glo "_is_row_for", .glo "first_unread", .glo "_are_rows", .glo "_law_is_whole", .glo "_law_is_below", .glo "_law_less", .glo "_law_put", .glo "_law_is_row", .glo "_law_draw", .glo "_law_pick", .glo "_law_bad_table", .glo "_law_cell", .glo "_law_first_unread", .glo "_law_spoilt_row", .glo "check_table", .glo "is_row", .glo "_law_made", .glo "_law_no_table", .glo "_law_same", .glo "_law_wide", .glo "_law_begun", .glo "_law_refused", .glo "_with_rows", .glo "_law_no_row", .glo "_law_no_valley", .glo "_law_no_matter", .glo "_law_no_custom", .glo "_law_no_kind", .glo "_law_no_column", .glo "_law_no_room", .glo "_law_bad_number", .glo "_with_cell", .glo "check_valley", .glo "check_matter", .glo "with_row", .glo "_is_column", .glo "_law_is_column", .glo "with_matter", .glo "read", .glo "_law_with_row", .glo "_law_with_matter", .glo "_law_with_cell", .glo "_law_lonely", .glo "_law_filled", .glo "_law_row_right", .glo "_law_matter_right", .glo "_law_read_right", .glo "law", .glo "_law_caught"]
def tfs : List (He.Defn × Str) := [(("_law_refused", none), "_law_refused.<locals>.<lambda>"), (("_law_row_right", none), "_law_row_right.<locals>.<lambda>"), (("_law_matter_right", none), "_law_matter_right.<locals>.<lambda>"), (("_law_read_right", none), "_law_read_right.<locals>.<lambda>"), (("law", none), "law.<locals>.<lambda>")]
def csK (K : PySem.W.Frag) : Cs := ⟨ga K "AllUnread", ga K "BadColumn", ga K "BadCustom", ga K "BadKind", ga K "BadKinds", ga K "BadMatter", ga K "BadRow", ga K "BadRows", ga K "BadTable", ga K "BadValley", ga K "FoundError", ga K "Table", ga K "TooMany", ga K "_law_no_custom", ga K "_law_no_matter", ga K "_law_no_table", ga K "_law_no_valley"⟩
def exs (K : PySem.W.Frag) : Bool := errFB K (ga K "FoundError") (ga K "BadColumn") && (errFB K (ga K "FoundError") (ga K "BadCustom") && (errFB K (ga K "FoundError") (ga K "BadKind") && (errFB K (ga K "FoundError") (ga K "BadKinds") && (errFB K (ga K "FoundError") (ga K "BadMatter") && (errFB K (ga K "FoundError") (ga K "BadRow") && (errFB K (ga K "FoundError") (ga K "BadRows") && (errFB K (ga K "FoundError") (ga K "BadTable") && (errFB K (ga K "FoundError") (ga K "BadValley") && (x1B K (ga K "FoundError") (ga K "AllUnread") "matter" && (x1B K (ga K "FoundError") (ga K "TooMany") "most" && (clsFB K (ga K "Table") ["kinds", "rows"] && (mkB K (ga K "Table") && (apartB K tfs)))))))))))))
def loose0 : List PySem.Str := ["FoundError", "AllUnread", "BadColumn", "BadCustom", "BadKind", "BadKinds", "BadMatter", "BadRow", "BadRows", "BadTable", "BadValley", "TooMany", "is_number", "is_between", "MOST_MATTERS", "MOST_KIND", "MOST_VALLEYS", "Table", "is_kind", "_are_kinds", "is_cell", "_is_row_for", "_are_rows", "first_unread", "check_table", "check_matter", "check_valley", "is_row", "read", "_with_cell"]
def loose1 : List PySem.Str := ["_with_rows", "with_row", "with_matter", "_is_column", "_law_begun", "_law_draw", "_law_pick", "_law_caught", "_law_is_whole", "_law_is_below", "_law_less", "_law_put", "_law_refused", "_law_made", "_law_bad_table", "_law_bad_number", "_law_cell", "_law_wide", "_law_same", "_law_is_row", "_law_first_unread", "_law_spoilt_row", "_law_no_table", "_law_no_matter", "_law_no_valley", "_law_no_custom", "_law_with_cell", "_law_with_row", "_law_with_matter", "_law_is_column"]
def loose2 : List PySem.Str := ["_law_no_row", "_law_no_kind", "_law_no_column", "_law_no_room", "_law_filled", "_law_lonely", "_law_read_right", "_law_row_right", "_law_matter_right"]
abbrev loose : List PySem.Str := loose0 ++ loose1 ++ loose2
abbrev Rw : PySem.W.OpenRow := PySem.W.OpenLaw.row PySem.Challenge.rw_oncefound_k03_cells_valleys_and_matters
abbrev tfd : List He.Defn := tfs.map (·.1)
abbrev hk : PySem.W.Hook := He.hookX 5 fcs dfs [] tfd exs
def ob (s : PySem.W.SharedT) : He.AlX := He.obsX 5 fcs dfs [] tfd exs (HandSHeadRun.getT s)
theorem ob_eq (s : PySem.W.SharedT) : ob s = hk.obs s.abs := He.obsX_eq (HandSHeadRun.getT_eq s)
set_option maxHeartbeats 0 in
theorem run (w : PySem.World) : HandSHeadRun.RunEq Rw (PySem.W.view Rw.prog [74]) hk ob 6000 loose w := by
  intro os
  kernel_rfl
theorem facts {w : PySem.World} {h : Heap} {K : PySem.W.Frag} {mg : Str → Option Value} {fa : Addr} (X : K.In h) (G : h.Ns mainGlobals mg) (hfa : mg ("law" : Str) = some (.ref fa)) (c : He.SaysX fcs dfs [] tfd exs w h K) : LawG PySem.Challenge.rw_oncefound_k03_cells_valleys_and_matters w K CX0 35 63 "script" mg fa h := by
  have d := c.t.d
  obtain ⟨fd_is_number, F_is_number⟩ := d.def_ 0 (d := ⟨("is_number", none), "is_number", "is_number", defArgs s_is_number, defBody s_is_number, defScope s_is_number, [], []⟩) rfl
  have g_is_number : mg "is_number" = some (.ref (ga K "is_number")) := He.glo_ok X G (d.fact 29 (f := .glo "is_number") rfl)
  have L_is_number : L2.Fun K "is_number" "is_number" s_is_number (fAd K ("is_number", none)) fd_is_number := He5.fun_of F_is_number
  have B_is_number : Binds K fd_is_number ["thing"] [] := L_is_number.binds fun _ _ _ _ _ _ us hl => match us, hl with | [_], _ => rfl
  obtain ⟨fd_is_between, F_is_between⟩ := d.def_ 1 (d := ⟨("is_between", none), "is_between", "is_between", defArgs s_is_between, defBody s_is_between, defScope s_is_between, [], []⟩) rfl
  have g_is_between : mg "is_between" = some (.ref (ga K "is_between")) := He.glo_ok X G (d.fact 30 (f := .glo "is_between") rfl)
  have L_is_between : L2.Fun K "is_between" "is_between" s_is_between (fAd K ("is_between", none)) fd_is_between := He5.fun_of F_is_between
  have B_is_between : Binds K fd_is_between ["thing", "low", "high"] [] := L_is_between.binds fun _ _ _ _ _ _ us hl => match us, hl with | [_, _, _], _ => rfl
  obtain ⟨fd_is_kind, F_is_kind⟩ := d.def_ 2 (d := ⟨("is_kind", none), "is_kind", "is_kind", defArgs s_is_kind, defBody s_is_kind, defScope s_is_kind, [], []⟩) rfl
  have g_is_kind : mg "is_kind" = some (.ref (ga K "is_kind")) := He.glo_ok X G (d.fact 31 (f := .glo "is_kind") rfl)
  have L_is_kind : L2.Fun K "is_kind" "is_kind" s_is_kind (fAd K ("is_kind", none)) fd_is_kind := He5.fun_of F_is_kind
  have B_is_kind : Binds K fd_is_kind ["thing"] [] := L_is_kind.binds fun _ _ _ _ _ _ us hl => match us, hl with | [_], _ => rfl
  obtain ⟨fd_are_kinds, F_are_kinds⟩ := d.def_ 3 (d := ⟨("_are_kinds", none), "_are_kinds", "_are_kinds", defArgs s_are_kinds, defBody s_are_kinds, defScope s_are_kinds, [], []⟩) rfl
  have g_are_kinds : mg "_are_kinds" = some (.ref (ga K "_are_kinds")) := He.glo_ok X G (d.fact 32 (f := .glo "_are_kinds") rfl)
  have L_are_kinds : L2.Fun K "_are_kinds" "_are_kinds" s_are_kinds (fAd K ("_are_kinds", none)) fd_are_kinds := He5.fun_of F_are_kinds
  have B_are_kinds : Binds K fd_are_kinds ["thing"] [] := L_are_kinds.binds fun _ _ _ _ _ _ us hl => match us, hl with | [_], _ => rfl
  obtain ⟨fd_is_cell, F_is_cell⟩ := d.def_ 4 (d := ⟨("is_cell", none), "is_cell", "is_cell", defArgs s_is_cell, defBody s_is_cell, defScope s_is_cell, [], []⟩) rfl
  have g_is_cell : mg "is_cell" = some (.ref (ga K "is_cell")) := He.glo_ok X G (d.fact 33 (f := .glo "is_cell") rfl)
  have L_is_cell : L2.Fun K "is_cell" "is_cell" s_is_cell (fAd K ("is_cell", none)) fd_is_cell := He5.fun_of F_is_cell
  have B_is_cell : Binds K fd_is_cell ["kind", "thing"] [] := L_is_cell.binds fun _ _ _ _ _ _ us hl => match us, hl with | [_, _], _ => rfl
  obtain ⟨fd_is_row_for, F_is_row_for⟩ := d.def_ 5 (d := ⟨("_is_row_for", none), "_is_row_for", "_is_row_for", defArgs s_is_row_for, defBody s_is_row_for, defScope s_is_row_for, [], []⟩) rfl
  have g_is_row_for : mg "_is_row_for" = some (.ref (ga K "_is_row_for")) := He.glo_ok X G (d.fact 34 (f := .glo "_is_row_for") rfl)
  have L_is_row_for : L2.Fun K "_is_row_for" "_is_row_for" s_is_row_for (fAd K ("_is_row_for", none)) fd_is_row_for := He5.fun_of F_is_row_for
  have B_is_row_for : Binds K fd_is_row_for ["kinds", "thing"] [] := L_is_row_for.binds fun _ _ _ _ _ _ us hl => match us, hl with | [_, _], _ => rfl
  obtain ⟨fd_first_unread, F_first_unread⟩ := d.def_ 6 (d := ⟨("first_unread", none), "first_unread", "first_unread", defArgs s_first_unread, defBody s_first_unread, defScope s_first_unread, [], []⟩) rfl
  have g_first_unread : mg "first_unread" = some (.ref (ga K "first_unread")) := He.glo_ok X G (d.fact 35 (f := .glo "first_unread") rfl)
  have L_first_unread : L2.Fun K "first_unread" "first_unread" s_first_unread (fAd K ("first_unread", none)) fd_first_unread := He5.fun_of F_first_unread
  have B_first_unread : Binds K fd_first_unread ["rows"] [] := L_first_unread.binds fun _ _ _ _ _ _ us hl => match us, hl with | [_], _ => rfl
  obtain ⟨fd_are_rows, F_are_rows⟩ := d.def_ 7 (d := ⟨("_are_rows", none), "_are_rows", "_are_rows", defArgs s_are_rows, defBody s_are_rows, defScope s_are_rows, [], []⟩) rfl
  have g_are_rows : mg "_are_rows" = some (.ref (ga K "_are_rows")) := He.glo_ok X G (d.fact 36 (f := .glo "_are_rows") rfl)
  have L_are_rows : L2.Fun K "_are_rows" "_are_rows" s_are_rows (fAd K ("_are_rows", none)) fd_are_rows := He5.fun_of F_are_rows
  have B_are_rows : Binds K fd_are_rows ["kinds", "thing"] [] := L_are_rows.binds fun _ _ _ _ _ _ us hl => match us, hl with | [_, _], _ => rfl
  obtain ⟨fd_law_is_whole, F_law_is_whole⟩ := d.def_ 8 (d := ⟨("_law_is_whole", none), "_law_is_whole", "_law_is_whole", defArgs s_law_is_whole, defBody s_law_is_whole, defScope s_law_is_whole, [], []⟩) rfl
  have g_law_is_whole : mg "_law_is_whole" = some (.ref (ga K "_law_is_whole")) := He.glo_ok X G (d.fact 37 (f := .glo "_law_is_whole") rfl)
  have L_law_is_whole : L2.Fun K "_law_is_whole" "_law_is_whole" s_law_is_whole (fAd K ("_law_is_whole", none)) fd_law_is_whole := He5.fun_of F_law_is_whole
  have B_law_is_whole : Binds K fd_law_is_whole ["item"] [] := L_law_is_whole.binds fun _ _ _ _ _ _ us hl => match us, hl with | [_], _ => rfl
  obtain ⟨fd_law_is_below, F_law_is_below⟩ := d.def_ 9 (d := ⟨("_law_is_below", none), "_law_is_below", "_law_is_below", defArgs s_law_is_below, defBody s_law_is_below, defScope s_law_is_below, [], []⟩) rfl
  have g_law_is_below : mg "_law_is_below" = some (.ref (ga K "_law_is_below")) := He.glo_ok X G (d.fact 38 (f := .glo "_law_is_below") rfl)
  have L_law_is_below : L2.Fun K "_law_is_below" "_law_is_below" s_law_is_below (fAd K ("_law_is_below", none)) fd_law_is_below := He5.fun_of F_law_is_below
  have B_law_is_below : Binds K fd_law_is_below ["item", "size_here"] [] := L_law_is_below.binds fun _ _ _ _ _ _ us hl => match us, hl with | [_, _], _ => rfl
  obtain ⟨fd_law_less, F_law_less⟩ := d.def_ 10 (d := ⟨("_law_less", none), "_law_less", "_law_less", defArgs s_law_less, defBody s_law_less, defScope s_law_less, [], []⟩) rfl
  have g_law_less : mg "_law_less" = some (.ref (ga K "_law_less")) := He.glo_ok X G (d.fact 39 (f := .glo "_law_less") rfl)
  have L_law_less : L2.Fun K "_law_less" "_law_less" s_law_less (fAd K ("_law_less", none)) fd_law_less := He5.fun_of F_law_less
  have B_law_less : Binds K fd_law_less ["row", "spot"] [] := L_law_less.binds fun _ _ _ _ _ _ us hl => match us, hl with | [_, _], _ => rfl
  obtain ⟨fd_law_put, F_law_put⟩ := d.def_ 11 (d := ⟨("_law_put", none), "_law_put", "_law_put", defArgs s_law_put, defBody s_law_put, defScope s_law_put, [], []⟩) rfl
  have g_law_put : mg "_law_put" = some (.ref (ga K "_law_put")) := He.glo_ok X G (d.fact 40 (f := .glo "_law_put") rfl)
  have L_law_put : L2.Fun K "_law_put" "_law_put" s_law_put (fAd K ("_law_put", none)) fd_law_put := He5.fun_of F_law_put
  have B_law_put : Binds K fd_law_put ["row", "spot", "item"] [] := L_law_put.binds fun _ _ _ _ _ _ us hl => match us, hl with | [_, _, _], _ => rfl
  obtain ⟨fd_law_is_row, F_law_is_row⟩ := d.def_ 12 (d := ⟨("_law_is_row", none), "_law_is_row", "_law_is_row", defArgs s_law_is_row, defBody s_law_is_row, defScope s_law_is_row, [], []⟩) rfl
  have g_law_is_row : mg "_law_is_row" = some (.ref (ga K "_law_is_row")) := He.glo_ok X G (d.fact 41 (f := .glo "_law_is_row") rfl)
  have L_law_is_row : L2.Fun K "_law_is_row" "_law_is_row" s_law_is_row (fAd K ("_law_is_row", none)) fd_law_is_row := He5.fun_of F_law_is_row
  have B_law_is_row : Binds K fd_law_is_row ["kinds_here", "thing"] [] := L_law_is_row.binds fun _ _ _ _ _ _ us hl => match us, hl with | [_, _], _ => rfl
  obtain ⟨fd_law_draw, F_law_draw⟩ := d.def_ 13 (d := ⟨("_law_draw", none), "_law_draw", "_law_draw", defArgs s_law_draw, defBody s_law_draw, defScope s_law_draw, [], []⟩) rfl
  have g_law_draw : mg "_law_draw" = some (.ref (ga K "_law_draw")) := He.glo_ok X G (d.fact 42 (f := .glo "_law_draw") rfl)
  have L_law_draw : L2.Fun K "_law_draw" "_law_draw" s_law_draw (fAd K ("_law_draw", none)) fd_law_draw := He5.fun_of F_law_draw
  have B_law_draw : Binds K fd_law_draw ["state", "size_here"] [] := L_law_draw.binds fun _ _ _ _ _ _ us hl => match us, hl with | [_, _], _ => rfl
  obtain ⟨fd_law_pick, F_law_pick⟩ := d.def_ 14 (d := ⟨("_law_pick", none), "_law_pick", "_law_pick", defArgs s_law_pick, defBody s_law_pick, defScope s_law_pick, [], []⟩) rfl
  have g_law_pick : mg "_law_pick" = some (.ref (ga K "_law_pick")) := He.glo_ok X G (d.fact 43 (f := .glo "_law_pick") rfl)
  have L_law_pick : L2.Fun K "_law_pick" "_law_pick" s_law_pick (fAd K ("_law_pick", none)) fd_law_pick := He5.fun_of F_law_pick
  have B_law_pick : Binds K fd_law_pick ["state", "several"] [] := L_law_pick.binds fun _ _ _ _ _ _ us hl => match us, hl with | [_, _], _ => rfl
  obtain ⟨fd_law_bad_table, F_law_bad_table⟩ := d.def_ 15 (d := ⟨("_law_bad_table", none), "_law_bad_table", "_law_bad_table", defArgs s_law_bad_table, defBody s_law_bad_table, defScope s_law_bad_table, [], []⟩) rfl
  have g_law_bad_table : mg "_law_bad_table" = some (.ref (ga K "_law_bad_table")) := He.glo_ok X G (d.fact 44 (f := .glo "_law_bad_table") rfl)
  have L_law_bad_table : L2.Fun K "_law_bad_table" "_law_bad_table" s_law_bad_table (fAd K ("_law_bad_table", none)) fd_law_bad_table := He5.fun_of F_law_bad_table
  have B_law_bad_table : Binds K fd_law_bad_table ["state"] [] := L_law_bad_table.binds fun _ _ _ _ _ _ us hl => match us, hl with | [_], _ => rfl
  obtain ⟨fd_law_cell, F_law_cell⟩ := d.def_ 16 (d := ⟨("_law_cell", none), "_law_cell", "_law_cell", defArgs s_law_cell, defBody s_law_cell, defScope s_law_cell, [], []⟩) rfl
  have g_law_cell : mg "_law_cell" = some (.ref (ga K "_law_cell")) := He.glo_ok X G (d.fact 45 (f := .glo "_law_cell") rfl)
  have L_law_cell : L2.Fun K "_law_cell" "_law_cell" s_law_cell (fAd K ("_law_cell", none)) fd_law_cell := He5.fun_of F_law_cell
  have B_law_cell : Binds K fd_law_cell ["state", "size_here"] [] := L_law_cell.binds fun _ _ _ _ _ _ us hl => match us, hl with | [_, _], _ => rfl
  obtain ⟨fd_law_first_unread, F_law_first_unread⟩ := d.def_ 17 (d := ⟨("_law_first_unread", none), "_law_first_unread", "_law_first_unread", defArgs s_law_first_unread, defBody s_law_first_unread, defScope s_law_first_unread, [], []⟩) rfl
  have g_law_first_unread : mg "_law_first_unread" = some (.ref (ga K "_law_first_unread")) := He.glo_ok X G (d.fact 46 (f := .glo "_law_first_unread") rfl)
  have L_law_first_unread : L2.Fun K "_law_first_unread" "_law_first_unread" s_law_first_unread (fAd K ("_law_first_unread", none)) fd_law_first_unread := He5.fun_of F_law_first_unread
  have B_law_first_unread : Binds K fd_law_first_unread ["many", "rows_here"] [] := L_law_first_unread.binds fun _ _ _ _ _ _ us hl => match us, hl with | [_, _], _ => rfl
  obtain ⟨fd_law_spoilt_row, F_law_spoilt_row⟩ := d.def_ 18 (d := ⟨("_law_spoilt_row", none), "_law_spoilt_row", "_law_spoilt_row", defArgs s_law_spoilt_row, defBody s_law_spoilt_row, defScope s_law_spoilt_row, [], []⟩) rfl
  have g_law_spoilt_row : mg "_law_spoilt_row" = some (.ref (ga K "_law_spoilt_row")) := He.glo_ok X G (d.fact 47 (f := .glo "_law_spoilt_row") rfl)
  have L_law_spoilt_row : L2.Fun K "_law_spoilt_row" "_law_spoilt_row" s_law_spoilt_row (fAd K ("_law_spoilt_row", none)) fd_law_spoilt_row := He5.fun_of F_law_spoilt_row
  have B_law_spoilt_row : Binds K fd_law_spoilt_row ["state", "kinds_here", "row"] [] := L_law_spoilt_row.binds fun _ _ _ _ _ _ us hl => match us, hl with | [_, _, _], _ => rfl
  obtain ⟨fd_Table_init, F_Table_init⟩ := d.def_ 19 (d := ⟨("Table", some "__init__"), "__init__", "Table.__init__", defArgs s_Table_init, defBody s_Table_init, defScope s_Table_init, [], []⟩) rfl
  have L_Table_init : L2.Fun K "__init__" "Table.__init__" s_Table_init (fAd K ("Table", some "__init__")) fd_Table_init := He5.fun_of F_Table_init
  have B_Table_init : Binds K fd_Table_init ["self", "kinds", "rows"] [] := L_Table_init.binds fun _ _ _ _ _ _ us hl => match us, hl with | [_, _, _], _ => rfl
  obtain ⟨fd_check_table, F_check_table⟩ := d.def_ 20 (d := ⟨("check_table", none), "check_table", "check_table", defArgs s_check_table, defBody s_check_table, defScope s_check_table, [], []⟩) rfl
  have g_check_table : mg "check_table" = some (.ref (ga K "check_table")) := He.glo_ok X G (d.fact 48 (f := .glo "check_table") rfl)
  have L_check_table : L2.Fun K "check_table" "check_table" s_check_table (fAd K ("check_table", none)) fd_check_table := He5.fun_of F_check_table
  have B_check_table : Binds K fd_check_table ["table"] [] := L_check_table.binds fun _ _ _ _ _ _ us hl => match us, hl with | [_], _ => rfl
  obtain ⟨fd_is_row, F_is_row⟩ := d.def_ 21 (d := ⟨("is_row", none), "is_row", "is_row", defArgs s_is_row, defBody s_is_row, defScope s_is_row, [], []⟩) rfl
  have g_is_row : mg "is_row" = some (.ref (ga K "is_row")) := He.glo_ok X G (d.fact 49 (f := .glo "is_row") rfl)
  have L_is_row : L2.Fun K "is_row" "is_row" s_is_row (fAd K ("is_row", none)) fd_is_row := He5.fun_of F_is_row
  have B_is_row : Binds K fd_is_row ["table", "thing"] [] := L_is_row.binds fun _ _ _ _ _ _ us hl => match us, hl with | [_, _], _ => rfl
  obtain ⟨fd_law_made, F_law_made⟩ := d.def_ 22 (d := ⟨("_law_made", none), "_law_made", "_law_made", defArgs s_law_made, defBody s_law_made, defScope s_law_made, [], []⟩) rfl
  have g_law_made : mg "_law_made" = some (.ref (ga K "_law_made")) := He.glo_ok X G (d.fact 50 (f := .glo "_law_made") rfl)
  have L_law_made : L2.Fun K "_law_made" "_law_made" s_law_made (fAd K ("_law_made", none)) fd_law_made := He5.fun_of F_law_made
  have B_law_made : Binds K fd_law_made ["scope"] [] := L_law_made.binds fun _ _ _ _ _ _ us hl => match us, hl with | [_], _ => rfl
  obtain ⟨fd_law_no_table, F_law_no_table⟩ := d.def_ 23 (d := ⟨("_law_no_table", none), "_law_no_table", "_law_no_table", defArgs s_law_no_table, defBody s_law_no_table, defScope s_law_no_table, [], []⟩) rfl
  have g_law_no_table : mg "_law_no_table" = some (.ref (ga K "_law_no_table")) := He.glo_ok X G (d.fact 51 (f := .glo "_law_no_table") rfl)
  have L_law_no_table : L2.Fun K "_law_no_table" "_law_no_table" s_law_no_table (fAd K ("_law_no_table", none)) fd_law_no_table := He5.fun_of F_law_no_table
  have B_law_no_table : Binds K fd_law_no_table ["caught"] [] := L_law_no_table.binds fun _ _ _ _ _ _ us hl => match us, hl with | [_], _ => rfl
  obtain ⟨fd_law_same, F_law_same⟩ := d.def_ 24 (d := ⟨("_law_same", none), "_law_same", "_law_same", defArgs s_law_same, defBody s_law_same, defScope s_law_same, [], []⟩) rfl
  have g_law_same : mg "_law_same" = some (.ref (ga K "_law_same")) := He.glo_ok X G (d.fact 52 (f := .glo "_law_same") rfl)
  have L_law_same : L2.Fun K "_law_same" "_law_same" s_law_same (fAd K ("_law_same", none)) fd_law_same := He5.fun_of F_law_same
  have B_law_same : Binds K fd_law_same ["thing", "scope"] [] := L_law_same.binds fun _ _ _ _ _ _ us hl => match us, hl with | [_, _], _ => rfl
  obtain ⟨fd_law_wide, F_law_wide⟩ := d.def_ 25 (d := ⟨("_law_wide", none), "_law_wide", "_law_wide", defArgs s_law_wide, defBody s_law_wide, defScope s_law_wide, [], []⟩) rfl
  have g_law_wide : mg "_law_wide" = some (.ref (ga K "_law_wide")) := He.glo_ok X G (d.fact 53 (f := .glo "_law_wide") rfl)
  have L_law_wide : L2.Fun K "_law_wide" "_law_wide" s_law_wide (fAd K ("_law_wide", none)) fd_law_wide := He5.fun_of F_law_wide
  have B_law_wide : Binds K fd_law_wide ["state"] [] := L_law_wide.binds fun _ _ _ _ _ _ us hl => match us, hl with | [_], _ => rfl
  obtain ⟨fd_law_begun, F_law_begun⟩ := d.def_ 26 (d := ⟨("_law_begun", none), "_law_begun", "_law_begun", defArgs s_law_begun, defBody s_law_begun, defScope s_law_begun, [], []⟩) rfl
  have g_law_begun : mg "_law_begun" = some (.ref (ga K "_law_begun")) := He.glo_ok X G (d.fact 54 (f := .glo "_law_begun") rfl)
  have L_law_begun : L2.Fun K "_law_begun" "_law_begun" s_law_begun (fAd K ("_law_begun", none)) fd_law_begun := He5.fun_of F_law_begun
  have B_law_begun : Binds K fd_law_begun ["script"] [] := L_law_begun.binds fun _ _ _ _ _ _ us hl => match us, hl with | [_], _ => rfl
  obtain ⟨fd_law_refused, F_law_refused⟩ := d.def_ 27 (d := ⟨("_law_refused", none), "_law_refused", "_law_refused", defArgs s_law_refused, defBody s_law_refused, defScope s_law_refused, [], []⟩) rfl
  have g_law_refused : mg "_law_refused" = some (.ref (ga K "_law_refused")) := He.glo_ok X G (d.fact 55 (f := .glo "_law_refused") rfl)
  have L_law_refused : L2.Fun K "_law_refused" "_law_refused" s_law_refused (fAd K ("_law_refused", none)) fd_law_refused := He5.fun_of F_law_refused
  have B_law_refused : Binds K fd_law_refused ["state", "work", "args", "bads"] [] := L_law_refused.binds fun _ _ _ _ _ _ us hl => match us, hl with | [_, _, _, _], _ => rfl
  obtain ⟨fd_with_rows, F_with_rows⟩ := d.def_ 28 (d := ⟨("_with_rows", none), "_with_rows", "_with_rows", defArgs s_with_rows, defBody s_with_rows, defScope s_with_rows, [], []⟩) rfl
  have g_with_rows : mg "_with_rows" = some (.ref (ga K "_with_rows")) := He.glo_ok X G (d.fact 56 (f := .glo "_with_rows") rfl)
  have L_with_rows : L2.Fun K "_with_rows" "_with_rows" s_with_rows (fAd K ("_with_rows", none)) fd_with_rows := He5.fun_of F_with_rows
  have B_with_rows : Binds K fd_with_rows ["table", "rows"] [] := L_with_rows.binds fun _ _ _ _ _ _ us hl => match us, hl with | [_, _], _ => rfl
  obtain ⟨fd_law_no_row, F_law_no_row⟩ := d.def_ 29 (d := ⟨("_law_no_row", none), "_law_no_row", "_law_no_row", defArgs s_law_no_row, defBody s_law_no_row, defScope s_law_no_row, [], []⟩) rfl
  have g_law_no_row : mg "_law_no_row" = some (.ref (ga K "_law_no_row")) := He.glo_ok X G (d.fact 57 (f := .glo "_law_no_row") rfl)
  have L_law_no_row : L2.Fun K "_law_no_row" "_law_no_row" s_law_no_row (fAd K ("_law_no_row", none)) fd_law_no_row := He5.fun_of F_law_no_row
  have B_law_no_row : Binds K fd_law_no_row ["caught"] [] := L_law_no_row.binds fun _ _ _ _ _ _ us hl => match us, hl with | [_], _ => rfl
  obtain ⟨fd_law_no_valley, F_law_no_valley⟩ := d.def_ 30 (d := ⟨("_law_no_valley", none), "_law_no_valley", "_law_no_valley", defArgs s_law_no_valley, defBody s_law_no_valley, defScope s_law_no_valley, [], []⟩) rfl
  have g_law_no_valley : mg "_law_no_valley" = some (.ref (ga K "_law_no_valley")) := He.glo_ok X G (d.fact 58 (f := .glo "_law_no_valley") rfl)
  have L_law_no_valley : L2.Fun K "_law_no_valley" "_law_no_valley" s_law_no_valley (fAd K ("_law_no_valley", none)) fd_law_no_valley := He5.fun_of F_law_no_valley
  have B_law_no_valley : Binds K fd_law_no_valley ["caught"] [] := L_law_no_valley.binds fun _ _ _ _ _ _ us hl => match us, hl with | [_], _ => rfl
  obtain ⟨fd_law_no_matter, F_law_no_matter⟩ := d.def_ 31 (d := ⟨("_law_no_matter", none), "_law_no_matter", "_law_no_matter", defArgs s_law_no_matter, defBody s_law_no_matter, defScope s_law_no_matter, [], []⟩) rfl
  have g_law_no_matter : mg "_law_no_matter" = some (.ref (ga K "_law_no_matter")) := He.glo_ok X G (d.fact 59 (f := .glo "_law_no_matter") rfl)
  have L_law_no_matter : L2.Fun K "_law_no_matter" "_law_no_matter" s_law_no_matter (fAd K ("_law_no_matter", none)) fd_law_no_matter := He5.fun_of F_law_no_matter
  have B_law_no_matter : Binds K fd_law_no_matter ["caught"] [] := L_law_no_matter.binds fun _ _ _ _ _ _ us hl => match us, hl with | [_], _ => rfl
  obtain ⟨fd_law_no_custom, F_law_no_custom⟩ := d.def_ 32 (d := ⟨("_law_no_custom", none), "_law_no_custom", "_law_no_custom", defArgs s_law_no_custom, defBody s_law_no_custom, defScope s_law_no_custom, [], []⟩) rfl
  have g_law_no_custom : mg "_law_no_custom" = some (.ref (ga K "_law_no_custom")) := He.glo_ok X G (d.fact 60 (f := .glo "_law_no_custom") rfl)
  have L_law_no_custom : L2.Fun K "_law_no_custom" "_law_no_custom" s_law_no_custom (fAd K ("_law_no_custom", none)) fd_law_no_custom := He5.fun_of F_law_no_custom
  have B_law_no_custom : Binds K fd_law_no_custom ["caught"] [] := L_law_no_custom.binds fun _ _ _ _ _ _ us hl => match us, hl with | [_], _ => rfl
  obtain ⟨fd_law_no_kind, F_law_no_kind⟩ := d.def_ 33 (d := ⟨("_law_no_kind", none), "_law_no_kind", "_law_no_kind", defArgs s_law_no_kind, defBody s_law_no_kind, defScope s_law_no_kind, [], []⟩) rfl
  have g_law_no_kind : mg "_law_no_kind" = some (.ref (ga K "_law_no_kind")) := He.glo_ok X G (d.fact 61 (f := .glo "_law_no_kind") rfl)
  have L_law_no_kind : L2.Fun K "_law_no_kind" "_law_no_kind" s_law_no_kind (fAd K ("_law_no_kind", none)) fd_law_no_kind := He5.fun_of F_law_no_kind
  have B_law_no_kind : Binds K fd_law_no_kind ["caught"] [] := L_law_no_kind.binds fun _ _ _ _ _ _ us hl => match us, hl with | [_], _ => rfl
  obtain ⟨fd_law_no_column, F_law_no_column⟩ := d.def_ 34 (d := ⟨("_law_no_column", none), "_law_no_column", "_law_no_column", defArgs s_law_no_column, defBody s_law_no_column, defScope s_law_no_column, [], []⟩) rfl
  have g_law_no_column : mg "_law_no_column" = some (.ref (ga K "_law_no_column")) := He.glo_ok X G (d.fact 62 (f := .glo "_law_no_column") rfl)
  have L_law_no_column : L2.Fun K "_law_no_column" "_law_no_column" s_law_no_column (fAd K ("_law_no_column", none)) fd_law_no_column := He5.fun_of F_law_no_column
  have B_law_no_column : Binds K fd_law_no_column ["caught"] [] := L_law_no_column.binds fun _ _ _ _ _ _ us hl => match us, hl with | [_], _ => rfl
  obtain ⟨fd_law_no_room, F_law_no_room⟩ := d.def_ 35 (d := ⟨("_law_no_room", none), "_law_no_room", "_law_no_room", defArgs s_law_no_room, defBody s_law_no_room, defScope s_law_no_room, [], []⟩) rfl
  have g_law_no_room : mg "_law_no_room" = some (.ref (ga K "_law_no_room")) := He.glo_ok X G (d.fact 63 (f := .glo "_law_no_room") rfl)
  have L_law_no_room : L2.Fun K "_law_no_room" "_law_no_room" s_law_no_room (fAd K ("_law_no_room", none)) fd_law_no_room := He5.fun_of F_law_no_room
  have B_law_no_room : Binds K fd_law_no_room ["caught"] [] := L_law_no_room.binds fun _ _ _ _ _ _ us hl => match us, hl with | [_], _ => rfl
  obtain ⟨fd_law_bad_number, F_law_bad_number⟩ := d.def_ 36 (d := ⟨("_law_bad_number", none), "_law_bad_number", "_law_bad_number", defArgs s_law_bad_number, defBody s_law_bad_number, defScope s_law_bad_number, [], []⟩) rfl
  have g_law_bad_number : mg "_law_bad_number" = some (.ref (ga K "_law_bad_number")) := He.glo_ok X G (d.fact 64 (f := .glo "_law_bad_number") rfl)
  have L_law_bad_number : L2.Fun K "_law_bad_number" "_law_bad_number" s_law_bad_number (fAd K ("_law_bad_number", none)) fd_law_bad_number := He5.fun_of F_law_bad_number
  have B_law_bad_number : Binds K fd_law_bad_number ["state", "size_here"] [] := L_law_bad_number.binds fun _ _ _ _ _ _ us hl => match us, hl with | [_, _], _ => rfl
  obtain ⟨fd_with_cell, F_with_cell⟩ := d.def_ 37 (d := ⟨("_with_cell", none), "_with_cell", "_with_cell", defArgs s_with_cell, defBody s_with_cell, defScope s_with_cell, [], []⟩) rfl
  have g_with_cell : mg "_with_cell" = some (.ref (ga K "_with_cell")) := He.glo_ok X G (d.fact 65 (f := .glo "_with_cell") rfl)
  have L_with_cell : L2.Fun K "_with_cell" "_with_cell" s_with_cell (fAd K ("_with_cell", none)) fd_with_cell := He5.fun_of F_with_cell
  have B_with_cell : Binds K fd_with_cell ["cells", "index", "cell"] [] := L_with_cell.binds fun _ _ _ _ _ _ us hl => match us, hl with | [_, _, _], _ => rfl
  obtain ⟨fd_check_valley, F_check_valley⟩ := d.def_ 38 (d := ⟨("check_valley", none), "check_valley", "check_valley", defArgs s_check_valley, defBody s_check_valley, defScope s_check_valley, [], []⟩) rfl
  have g_check_valley : mg "check_valley" = some (.ref (ga K "check_valley")) := He.glo_ok X G (d.fact 66 (f := .glo "check_valley") rfl)
  have L_check_valley : L2.Fun K "check_valley" "check_valley" s_check_valley (fAd K ("check_valley", none)) fd_check_valley := He5.fun_of F_check_valley
  have B_check_valley : Binds K fd_check_valley ["table", "valley"] [] := L_check_valley.binds fun _ _ _ _ _ _ us hl => match us, hl with | [_, _], _ => rfl
  obtain ⟨fd_check_matter, F_check_matter⟩ := d.def_ 39 (d := ⟨("check_matter", none), "check_matter", "check_matter", defArgs s_check_matter, defBody s_check_matter, defScope s_check_matter, [], []⟩) rfl
  have g_check_matter : mg "check_matter" = some (.ref (ga K "check_matter")) := He.glo_ok X G (d.fact 67 (f := .glo "check_matter") rfl)
  have L_check_matter : L2.Fun K "check_matter" "check_matter" s_check_matter (fAd K ("check_matter", none)) fd_check_matter := He5.fun_of F_check_matter
  have B_check_matter : Binds K fd_check_matter ["table", "matter"] [] := L_check_matter.binds fun _ _ _ _ _ _ us hl => match us, hl with | [_, _], _ => rfl
  obtain ⟨fd_with_row, F_with_row⟩ := d.def_ 40 (d := ⟨("with_row", none), "with_row", "with_row", defArgs s_with_row, defBody s_with_row, defScope s_with_row, [], []⟩) rfl
  have g_with_row : mg "with_row" = some (.ref (ga K "with_row")) := He.glo_ok X G (d.fact 68 (f := .glo "with_row") rfl)
  have L_with_row : L2.Fun K "with_row" "with_row" s_with_row (fAd K ("with_row", none)) fd_with_row := He5.fun_of F_with_row
  have B_with_row : Binds K fd_with_row ["table", "row"] [] := L_with_row.binds fun _ _ _ _ _ _ us hl => match us, hl with | [_, _], _ => rfl
  obtain ⟨fd_is_column, F_is_column⟩ := d.def_ 41 (d := ⟨("_is_column", none), "_is_column", "_is_column", defArgs s_is_column, defBody s_is_column, defScope s_is_column, [], []⟩) rfl
  have g_is_column : mg "_is_column" = some (.ref (ga K "_is_column")) := He.glo_ok X G (d.fact 69 (f := .glo "_is_column") rfl)
  have L_is_column : L2.Fun K "_is_column" "_is_column" s_is_column (fAd K ("_is_column", none)) fd_is_column := He5.fun_of F_is_column
  have B_is_column : Binds K fd_is_column ["many", "kind", "thing"] [] := L_is_column.binds fun _ _ _ _ _ _ us hl => match us, hl with | [_, _, _], _ => rfl
  obtain ⟨fd_law_is_column, F_law_is_column⟩ := d.def_ 42 (d := ⟨("_law_is_column", none), "_law_is_column", "_law_is_column", defArgs s_law_is_column, defBody s_law_is_column, defScope s_law_is_column, [], []⟩) rfl
  have g_law_is_column : mg "_law_is_column" = some (.ref (ga K "_law_is_column")) := He.glo_ok X G (d.fact 70 (f := .glo "_law_is_column") rfl)
  have L_law_is_column : L2.Fun K "_law_is_column" "_law_is_column" s_law_is_column (fAd K ("_law_is_column", none)) fd_law_is_column := He5.fun_of F_law_is_column
  have B_law_is_column : Binds K fd_law_is_column ["size_here", "many", "thing"] [] := L_law_is_column.binds fun _ _ _ _ _ _ us hl => match us, hl with | [_, _, _], _ => rfl
  obtain ⟨fd_with_matter, F_with_matter⟩ := d.def_ 43 (d := ⟨("with_matter", none), "with_matter", "with_matter", defArgs s_with_matter, defBody s_with_matter, defScope s_with_matter, [], []⟩) rfl
  have g_with_matter : mg "with_matter" = some (.ref (ga K "with_matter")) := He.glo_ok X G (d.fact 71 (f := .glo "with_matter") rfl)
  have L_with_matter : L2.Fun K "with_matter" "with_matter" s_with_matter (fAd K ("with_matter", none)) fd_with_matter := He5.fun_of F_with_matter
  have B_with_matter : Binds K fd_with_matter ["table", "kind", "column"] [] := L_with_matter.binds fun _ _ _ _ _ _ us hl => match us, hl with | [_, _, _], _ => rfl
  obtain ⟨fd_read, F_read⟩ := d.def_ 44 (d := ⟨("read", none), "read", "read", defArgs s_read, defBody s_read, defScope s_read, [], []⟩) rfl
  have g_read : mg "read" = some (.ref (ga K "read")) := He.glo_ok X G (d.fact 72 (f := .glo "read") rfl)
  have L_read : L2.Fun K "read" "read" s_read (fAd K ("read", none)) fd_read := He5.fun_of F_read
  have B_read : Binds K fd_read ["table", "valley", "matter", "custom"] [] := L_read.binds fun _ _ _ _ _ _ us hl => match us, hl with | [_, _, _, _], _ => rfl
  obtain ⟨fd_law_with_row, F_law_with_row⟩ := d.def_ 45 (d := ⟨("_law_with_row", none), "_law_with_row", "_law_with_row", defArgs s_law_with_row, defBody s_law_with_row, defScope s_law_with_row, [], []⟩) rfl
  have g_law_with_row : mg "_law_with_row" = some (.ref (ga K "_law_with_row")) := He.glo_ok X G (d.fact 73 (f := .glo "_law_with_row") rfl)
  have L_law_with_row : L2.Fun K "_law_with_row" "_law_with_row" s_law_with_row (fAd K ("_law_with_row", none)) fd_law_with_row := He5.fun_of F_law_with_row
  have B_law_with_row : Binds K fd_law_with_row ["scope", "row"] [] := L_law_with_row.binds fun _ _ _ _ _ _ us hl => match us, hl with | [_, _], _ => rfl
  obtain ⟨fd_law_with_matter, F_law_with_matter⟩ := d.def_ 46 (d := ⟨("_law_with_matter", none), "_law_with_matter", "_law_with_matter", defArgs s_law_with_matter, defBody s_law_with_matter, defScope s_law_with_matter, [], []⟩) rfl
  have g_law_with_matter : mg "_law_with_matter" = some (.ref (ga K "_law_with_matter")) := He.glo_ok X G (d.fact 74 (f := .glo "_law_with_matter") rfl)
  have L_law_with_matter : L2.Fun K "_law_with_matter" "_law_with_matter" s_law_with_matter (fAd K ("_law_with_matter", none)) fd_law_with_matter := He5.fun_of F_law_with_matter
  have B_law_with_matter : Binds K fd_law_with_matter ["scope", "size_here", "column_here"] [] := L_law_with_matter.binds fun _ _ _ _ _ _ us hl => match us, hl with | [_, _, _], _ => rfl
  obtain ⟨fd_law_with_cell, F_law_with_cell⟩ := d.def_ 47 (d := ⟨("_law_with_cell", none), "_law_with_cell", "_law_with_cell", defArgs s_law_with_cell, defBody s_law_with_cell, defScope s_law_with_cell, [], []⟩) rfl
  have g_law_with_cell : mg "_law_with_cell" = some (.ref (ga K "_law_with_cell")) := He.glo_ok X G (d.fact 75 (f := .glo "_law_with_cell") rfl)
  have L_law_with_cell : L2.Fun K "_law_with_cell" "_law_with_cell" s_law_with_cell (fAd K ("_law_with_cell", none)) fd_law_with_cell := He5.fun_of F_law_with_cell
  have B_law_with_cell : Binds K fd_law_with_cell ["scope", "at", "spot", "item"] [] := L_law_with_cell.binds fun _ _ _ _ _ _ us hl => match us, hl with | [_, _, _, _], _ => rfl
  obtain ⟨fd_law_lonely, F_law_lonely⟩ := d.def_ 48 (d := ⟨("_law_lonely", none), "_law_lonely", "_law_lonely", defArgs s_law_lonely, defBody s_law_lonely, defScope s_law_lonely, [], []⟩) rfl
  have g_law_lonely : mg "_law_lonely" = some (.ref (ga K "_law_lonely")) := He.glo_ok X G (d.fact 76 (f := .glo "_law_lonely") rfl)
  have L_law_lonely : L2.Fun K "_law_lonely" "_law_lonely" s_law_lonely (fAd K ("_law_lonely", none)) fd_law_lonely := He5.fun_of F_law_lonely
  have B_law_lonely : Binds K fd_law_lonely ["state", "scope"] [] := L_law_lonely.binds fun _ _ _ _ _ _ us hl => match us, hl with | [_, _], _ => rfl
  obtain ⟨fd_law_filled, F_law_filled⟩ := d.def_ 49 (d := ⟨("_law_filled", none), "_law_filled", "_law_filled", defArgs s_law_filled, defBody s_law_filled, defScope s_law_filled, [], []⟩) rfl
  have g_law_filled : mg "_law_filled" = some (.ref (ga K "_law_filled")) := He.glo_ok X G (d.fact 77 (f := .glo "_law_filled") rfl)
  have L_law_filled : L2.Fun K "_law_filled" "_law_filled" s_law_filled (fAd K ("_law_filled", none)) fd_law_filled := He5.fun_of F_law_filled
  have B_law_filled : Binds K fd_law_filled ["state", "scope"] [] := L_law_filled.binds fun _ _ _ _ _ _ us hl => match us, hl with | [_, _], _ => rfl
  obtain ⟨fd_law_row_right, F_law_row_right⟩ := d.def_ 50 (d := ⟨("_law_row_right", none), "_law_row_right", "_law_row_right", defArgs s_law_row_right, defBody s_law_row_right, defScope s_law_row_right, [], []⟩) rfl
  have g_law_row_right : mg "_law_row_right" = some (.ref (ga K "_law_row_right")) := He.glo_ok X G (d.fact 78 (f := .glo "_law_row_right") rfl)
  have L_law_row_right : L2.Fun K "_law_row_right" "_law_row_right" s_law_row_right (fAd K ("_law_row_right", none)) fd_law_row_right := He5.fun_of F_law_row_right
  have B_law_row_right : Binds K fd_law_row_right ["state", "scope"] [] := L_law_row_right.binds fun _ _ _ _ _ _ us hl => match us, hl with | [_, _], _ => rfl
  obtain ⟨fd_law_matter_right, F_law_matter_right⟩ := d.def_ 51 (d := ⟨("_law_matter_right", none), "_law_matter_right", "_law_matter_right", defArgs s_law_matter_right, defBody s_law_matter_right, defScope s_law_matter_right, [], []⟩) rfl
  have g_law_matter_right : mg "_law_matter_right" = some (.ref (ga K "_law_matter_right")) := He.glo_ok X G (d.fact 79 (f := .glo "_law_matter_right") rfl)
  have L_law_matter_right : L2.Fun K "_law_matter_right" "_law_matter_right" s_law_matter_right (fAd K ("_law_matter_right", none)) fd_law_matter_right := He5.fun_of F_law_matter_right
  have B_law_matter_right : Binds K fd_law_matter_right ["state", "scope"] [] := L_law_matter_right.binds fun _ _ _ _ _ _ us hl => match us, hl with | [_, _], _ => rfl
  obtain ⟨fd_law_read_right, F_law_read_right⟩ := d.def_ 52 (d := ⟨("_law_read_right", none), "_law_read_right", "_law_read_right", defArgs s_law_read_right, defBody s_law_read_right, defScope s_law_read_right, [], []⟩) rfl
  have g_law_read_right : mg "_law_read_right" = some (.ref (ga K "_law_read_right")) := He.glo_ok X G (d.fact 80 (f := .glo "_law_read_right") rfl)
  have L_law_read_right : L2.Fun K "_law_read_right" "_law_read_right" s_law_read_right (fAd K ("_law_read_right", none)) fd_law_read_right := He5.fun_of F_law_read_right
  have B_law_read_right : Binds K fd_law_read_right ["state", "scope", "at", "spot", "item"] [] := L_law_read_right.binds fun _ _ _ _ _ _ us hl => match us, hl with | [_, _, _, _, _], _ => rfl
  obtain ⟨fd_law, F_law⟩ := d.def_ 53 (d := ⟨("law", none), "law", "law", defArgs s_law, defBody s_law, defScope s_law, [], []⟩) rfl
  have g_law : mg "law" = some (.ref (ga K "law")) := He.glo_ok X G (d.fact 81 (f := .glo "law") rfl)
  have L_law : L2.Fun K "law" "law" s_law (fAd K ("law", none)) fd_law := He5.fun_of F_law
  have B_law : Binds K fd_law ["script"] [] := L_law.binds fun _ _ _ _ _ _ us hl => match us, hl with | [_], _ => rfl
  obtain ⟨fd_law_caught, F_law_caught⟩ := d.def_ 54 (d := ⟨("_law_caught", none), "_law_caught", "_law_caught", defArgs s_law_caught, defBody s_law_caught, defScope s_law_caught, [], []⟩) rfl
  have g_law_caught : mg "_law_caught" = some (.ref (ga K "_law_caught")) := He.glo_ok X G (d.fact 82 (f := .glo "_law_caught") rfl)
  have L_law_caught : L2.Fun K "_law_caught" "_law_caught" s_law_caught (fAd K ("_law_caught", none)) fd_law_caught := He5.fun_of F_law_caught
  have B_law_caught : Binds K fd_law_caught ["work"] [] := L_law_caught.binds fun _ _ _ _ _ _ us hl => match us, hl with | [_], _ => rfl
  obtain ⟨fd_AllUnread_init, F_AllUnread_init⟩ := d.def_ 55 (d := ⟨("AllUnread", some "__init__"), "__init__", "AllUnread.__init__", defArgs s_AllUnread_init, defBody s_AllUnread_init, defScope s_AllUnread_init, [], []⟩) rfl
  have L_AllUnread_init : L2.Fun K "__init__" "AllUnread.__init__" s_AllUnread_init (fAd K ("AllUnread", some "__init__")) fd_AllUnread_init := He5.fun_of F_AllUnread_init
  have B_AllUnread_init : Binds K fd_AllUnread_init ["self", "matter"] [] := L_AllUnread_init.binds fun _ _ _ _ _ _ us hl => match us, hl with | [_, _], _ => rfl
  obtain ⟨fd_TooMany_init, F_TooMany_init⟩ := d.def_ 56 (d := ⟨("TooMany", some "__init__"), "__init__", "TooMany.__init__", defArgs s_TooMany_init, defBody s_TooMany_init, defScope s_TooMany_init, [], []⟩) rfl
  have L_TooMany_init : L2.Fun K "__init__" "TooMany.__init__" s_TooMany_init (fAd K ("TooMany", some "__init__")) fd_TooMany_init := He5.fun_of F_TooMany_init
  have B_TooMany_init : Binds K fd_TooMany_init ["self", "most"] [] := L_TooMany_init.binds fun _ _ _ _ _ _ us hl => match us, hl with | [_, _], _ => rfl
  obtain ⟨t_MOST_KIND, k_MOST_KIND⟩ := He.int_ok X G (d.fact 13 (f := .int "MOST_KIND" 6) rfl)
  obtain ⟨t_MOST_MATTERS, k_MOST_MATTERS⟩ := He.int_ok X G (d.fact 14 (f := .int "MOST_MATTERS" 8) rfl)
  obtain ⟨t_MOST_VALLEYS, k_MOST_VALLEYS⟩ := He.int_ok X G (d.fact 15 (f := .int "MOST_VALLEYS" 12) rfl)
  have m0 := c.more
  obtain ⟨q0, m1⟩ := b2 m0
  obtain ⟨q1, m2⟩ := b2 m1
  obtain ⟨q2, m3⟩ := b2 m2
  obtain ⟨q3, m4⟩ := b2 m3
  obtain ⟨q4, m5⟩ := b2 m4
  obtain ⟨q5, m6⟩ := b2 m5
  obtain ⟨q6, m7⟩ := b2 m6
  obtain ⟨q7, m8⟩ := b2 m7
  obtain ⟨q8, m9⟩ := b2 m8
  obtain ⟨q9, m10⟩ := b2 m9
  obtain ⟨q10, m11⟩ := b2 m10
  obtain ⟨q11, m12⟩ := b2 m11
  obtain ⟨q12, m13⟩ := b2 m12
  have E_BadColumn := errFB_ok q0
  have E_BadCustom := errFB_ok q1
  have E_BadKind := errFB_ok q2
  have E_BadKinds := errFB_ok q3
  have E_BadMatter := errFB_ok q4
  have E_BadRow := errFB_ok q5
  have E_BadRows := errFB_ok q6
  have E_BadTable := errFB_ok q7
  have E_BadValley := errFB_ok q8
  have E_AllUnread := x1B_ok q9
  have E_TooMany := x1B_ok q10
  have C_Table := clsFB_ok q11
  have M_Table := mkB_ok q12
  have hap : apartB K tfs = true := m13
  have T : Txt K mg (csK K) ⟨t_MOST_KIND, t_MOST_MATTERS, t_MOST_VALLEYS⟩ := {
    n_abs := He.free_ok X G (d.fact 0 (f := .free "abs") rfl)
    n_all := He.free_ok X G (d.fact 1 (f := .free "all") rfl)
    n_any := He.free_ok X G (d.fact 2 (f := .free "any") rfl)
    n_bool := He.free_ok X G (d.fact 3 (f := .free "bool") rfl)
    n_int := He.free_ok X G (d.fact 4 (f := .free "int") rfl)
    n_isinstance := He.free_ok X G (d.fact 5 (f := .free "isinstance") rfl)
    n_len := He.free_ok X G (d.fact 6 (f := .free "len") rfl)
    n_list := He.free_ok X G (d.fact 7 (f := .free "list") rfl)
    n_min := He.free_ok X G (d.fact 8 (f := .free "min") rfl)
    n_range := He.free_ok X G (d.fact 9 (f := .free "range") rfl)
    n_repr := He.free_ok X G (d.fact 10 (f := .free "repr") rfl)
    n_tuple := He.free_ok X G (d.fact 11 (f := .free "tuple") rfl)
    n_zip := He.free_ok X G (d.fact 12 (f := .free "zip") rfl)
    k_MOST_KIND := ⟨trivial, k_MOST_KIND⟩
    k_MOST_MATTERS := ⟨trivial, k_MOST_MATTERS⟩
    k_MOST_VALLEYS := ⟨trivial, k_MOST_VALLEYS⟩
    g_AllUnread := He.glo_ok X G (d.fact 16 (f := .glo "AllUnread") rfl)
    g_BadColumn := He.glo_ok X G (d.fact 17 (f := .glo "BadColumn") rfl)
    g_BadCustom := He.glo_ok X G (d.fact 18 (f := .glo "BadCustom") rfl)
    g_BadKind := He.glo_ok X G (d.fact 19 (f := .glo "BadKind") rfl)
    g_BadKinds := He.glo_ok X G (d.fact 20 (f := .glo "BadKinds") rfl)
    g_BadMatter := He.glo_ok X G (d.fact 21 (f := .glo "BadMatter") rfl)
    g_BadRow := He.glo_ok X G (d.fact 22 (f := .glo "BadRow") rfl)
    g_BadRows := He.glo_ok X G (d.fact 23 (f := .glo "BadRows") rfl)
    g_BadTable := He.glo_ok X G (d.fact 24 (f := .glo "BadTable") rfl)
    g_BadValley := He.glo_ok X G (d.fact 25 (f := .glo "BadValley") rfl)
    g_FoundError := He.glo_ok X G (d.fact 26 (f := .glo "FoundError") rfl)
    g_Table := He.glo_ok X G (d.fact 27 (f := .glo "Table") rfl)
    g_TooMany := He.glo_ok X G (d.fact 28 (f := .glo "TooMany") rfl)
    x_BadColumn := E_BadColumn.x
    e_BadColumn := E_BadColumn.e
    b_BadColumn := E_BadColumn.b
    t_BadColumn := E_BadColumn.t
    r_BadColumn := E_BadColumn.r
    i_BadColumn := E_BadColumn.i
    v_BadColumn := E_BadColumn.v
    x_BadCustom := E_BadCustom.x
    e_BadCustom := E_BadCustom.e
    b_BadCustom := E_BadCustom.b
    t_BadCustom := E_BadCustom.t
    r_BadCustom := E_BadCustom.r
    i_BadCustom := E_BadCustom.i
    v_BadCustom := E_BadCustom.v
    x_BadKind := E_BadKind.x
    e_BadKind := E_BadKind.e
    b_BadKind := E_BadKind.b
    t_BadKind := E_BadKind.t
    r_BadKind := E_BadKind.r
    i_BadKind := E_BadKind.i
    v_BadKind := E_BadKind.v
    x_BadKinds := E_BadKinds.x
    e_BadKinds := E_BadKinds.e
    b_BadKinds := E_BadKinds.b
    t_BadKinds := E_BadKinds.t
    r_BadKinds := E_BadKinds.r
    i_BadKinds := E_BadKinds.i
    v_BadKinds := E_BadKinds.v
    x_BadMatter := E_BadMatter.x
    e_BadMatter := E_BadMatter.e
    b_BadMatter := E_BadMatter.b
    t_BadMatter := E_BadMatter.t
    r_BadMatter := E_BadMatter.r
    i_BadMatter := E_BadMatter.i
    v_BadMatter := E_BadMatter.v
    x_BadRow := E_BadRow.x
    e_BadRow := E_BadRow.e
    b_BadRow := E_BadRow.b
    t_BadRow := E_BadRow.t
    r_BadRow := E_BadRow.r
    i_BadRow := E_BadRow.i
    v_BadRow := E_BadRow.v
    x_BadRows := E_BadRows.x
    e_BadRows := E_BadRows.e
    b_BadRows := E_BadRows.b
    t_BadRows := E_BadRows.t
    r_BadRows := E_BadRows.r
    i_BadRows := E_BadRows.i
    v_BadRows := E_BadRows.v
    x_BadTable := E_BadTable.x
    e_BadTable := E_BadTable.e
    b_BadTable := E_BadTable.b
    t_BadTable := E_BadTable.t
    r_BadTable := E_BadTable.r
    i_BadTable := E_BadTable.i
    v_BadTable := E_BadTable.v
    x_BadValley := E_BadValley.x
    e_BadValley := E_BadValley.e
    b_BadValley := E_BadValley.b
    t_BadValley := E_BadValley.t
    r_BadValley := E_BadValley.r
    i_BadValley := E_BadValley.i
    v_BadValley := E_BadValley.v
    fa_AllUnread := E_AllUnread.n
    r_AllUnread := E_AllUnread.r
    i_AllUnread := E_AllUnread.k
    fa_TooMany := E_TooMany.n
    r_TooMany := E_TooMany.r
    i_TooMany := E_TooMany.k
    d__law_no_custom := g_law_no_custom
    d__law_no_matter := g_law_no_matter
    d__law_no_table := g_law_no_table
    d__law_no_valley := g_law_no_valley
    ic_Table := C_Table.ic
    no_Table := C_Table.no
    i_Table := C_Table.i
    na_Table_kinds := C_Table.na "kinds" (by simp)
    na_Table_rows := C_Table.na "rows" (by simp)
  }
  have e := hfa.symm.trans g_law
  cases e
  refine ⟨tfs.map (fun p => cT K p.1), fd_law, spLaw K (TTof K tfs), ⟨fun p hp => ?_, fun p hp => ?_, fun p hp => ?_⟩, fun base KI GI TB => ?_, fun s u => .of_eq ?_, fun H a ns hl _ hH hS => ⟨a, ns, rfl, hS, hl, tabs_of hH, fun _ => rfl⟩⟩
  · obtain ⟨r, hr, rfl⟩ := List.mem_map.mp hp
    exact c.empty r.1 (List.mem_map.mpr ⟨r, hr, rfl⟩)
  · obtain ⟨r, hr, rfl⟩ := List.mem_map.mp hp
    exact PySem.W.codeHd_of_K X (c.hd r.1 (List.mem_map.mpr ⟨r, hr, rfl⟩))
  · obtain ⟨r, hr, rfl⟩ := List.mem_map.mp hp
    exact c.out r.1 (List.mem_map.mpr ⟨r, hr, rfl⟩)
  · have c_is_number := ok_is_number (P := PySem.Challenge.rw_oncefound_k03_cells_valleys_and_matters.prog) (w := w) (base := base) (TT := TTof K tfs) T ⟨_, _, L_is_number, g_is_number, L_is_number.kp, B_is_number⟩
    have c_first_unread := ok_first_unread (P := PySem.Challenge.rw_oncefound_k03_cells_valleys_and_matters.prog) (w := w) (base := base) (TT := TTof K tfs) T ⟨_, _, L_first_unread, g_first_unread, L_first_unread.kp, B_first_unread⟩
    have c_law_is_whole := ok_law_is_whole (P := PySem.Challenge.rw_oncefound_k03_cells_valleys_and_matters.prog) (w := w) (base := base) (TT := TTof K tfs) T ⟨_, _, L_law_is_whole, g_law_is_whole, L_law_is_whole.kp, B_law_is_whole⟩
    have c_law_less := ok_law_less (P := PySem.Challenge.rw_oncefound_k03_cells_valleys_and_matters.prog) (w := w) (base := base) (TT := TTof K tfs) T ⟨_, _, L_law_less, g_law_less, L_law_less.kp, B_law_less⟩
    have c_law_put := ok_law_put (P := PySem.Challenge.rw_oncefound_k03_cells_valleys_and_matters.prog) (w := w) (base := base) (TT := TTof K tfs) T ⟨_, _, L_law_put, g_law_put, L_law_put.kp, B_law_put⟩
    have c_law_draw := ok_law_draw (P := PySem.Challenge.rw_oncefound_k03_cells_valleys_and_matters.prog) (w := w) (base := base) (TT := TTof K tfs) T ⟨_, _, L_law_draw, g_law_draw, L_law_draw.kp, B_law_draw⟩
    have c_law_first_unread := ok_law_first_unread (P := PySem.Challenge.rw_oncefound_k03_cells_valleys_and_matters.prog) (w := w) (base := base) (TT := TTof K tfs) T ⟨_, _, L_law_first_unread, g_law_first_unread, L_law_first_unread.kp, B_law_first_unread⟩
    have c_check_table := ok_check_table (P := PySem.Challenge.rw_oncefound_k03_cells_valleys_and_matters.prog) (w := w) (base := base) (TT := TTof K tfs) T ⟨_, _, L_check_table, g_check_table, L_check_table.kp, B_check_table⟩
    have c_law_no_table := ok_law_no_table (P := PySem.Challenge.rw_oncefound_k03_cells_valleys_and_matters.prog) (w := w) (base := base) (TT := TTof K tfs) T ⟨_, _, L_law_no_table, g_law_no_table, L_law_no_table.kp, B_law_no_table⟩
    have c_law_same := ok_law_same (P := PySem.Challenge.rw_oncefound_k03_cells_valleys_and_matters.prog) (w := w) (base := base) (TT := TTof K tfs) T ⟨_, _, L_law_same, g_law_same, L_law_same.kp, B_law_same⟩
    have c_law_begun := ok_law_begun (P := PySem.Challenge.rw_oncefound_k03_cells_valleys_and_matters.prog) (w := w) (base := base) T ⟨_, _, L_law_begun, g_law_begun, L_law_begun.kp, B_law_begun⟩
    have c_law_no_row := ok_law_no_row (P := PySem.Challenge.rw_oncefound_k03_cells_valleys_and_matters.prog) (w := w) (base := base) (TT := TTof K tfs) T ⟨_, _, L_law_no_row, g_law_no_row, L_law_no_row.kp, B_law_no_row⟩
    have c_law_no_valley := ok_law_no_valley (P := PySem.Challenge.rw_oncefound_k03_cells_valleys_and_matters.prog) (w := w) (base := base) (TT := TTof K tfs) T ⟨_, _, L_law_no_valley, g_law_no_valley, L_law_no_valley.kp, B_law_no_valley⟩
    have c_law_no_matter := ok_law_no_matter (P := PySem.Challenge.rw_oncefound_k03_cells_valleys_and_matters.prog) (w := w) (base := base) (TT := TTof K tfs) T ⟨_, _, L_law_no_matter, g_law_no_matter, L_law_no_matter.kp, B_law_no_matter⟩
    have c_law_no_custom := ok_law_no_custom (P := PySem.Challenge.rw_oncefound_k03_cells_valleys_and_matters.prog) (w := w) (base := base) (TT := TTof K tfs) T ⟨_, _, L_law_no_custom, g_law_no_custom, L_law_no_custom.kp, B_law_no_custom⟩
    have c_law_no_kind := ok_law_no_kind (P := PySem.Challenge.rw_oncefound_k03_cells_valleys_and_matters.prog) (w := w) (base := base) (TT := TTof K tfs) T ⟨_, _, L_law_no_kind, g_law_no_kind, L_law_no_kind.kp, B_law_no_kind⟩
    have c_law_no_column := ok_law_no_column (P := PySem.Challenge.rw_oncefound_k03_cells_valleys_and_matters.prog) (w := w) (base := base) (TT := TTof K tfs) T ⟨_, _, L_law_no_column, g_law_no_column, L_law_no_column.kp, B_law_no_column⟩
    have c_law_no_room := ok_law_no_room (P := PySem.Challenge.rw_oncefound_k03_cells_valleys_and_matters.prog) (w := w) (base := base) (TT := TTof K tfs) T ⟨_, _, L_law_no_room, g_law_no_room, L_law_no_room.kp, B_law_no_room⟩
    have c_with_cell := ok_with_cell (P := PySem.Challenge.rw_oncefound_k03_cells_valleys_and_matters.prog) (w := w) (base := base) (TT := TTof K tfs) T ⟨_, _, L_with_cell, g_with_cell, L_with_cell.kp, B_with_cell⟩
    have c_law_with_row := ok_law_with_row (P := PySem.Challenge.rw_oncefound_k03_cells_valleys_and_matters.prog) (w := w) (base := base) (TT := TTof K tfs) T ⟨_, _, L_law_with_row, g_law_with_row, L_law_with_row.kp, B_law_with_row⟩
    have c_law_with_matter := ok_law_with_matter (P := PySem.Challenge.rw_oncefound_k03_cells_valleys_and_matters.prog) (w := w) (base := base) (TT := TTof K tfs) T ⟨_, _, L_law_with_matter, g_law_with_matter, L_law_with_matter.kp, B_law_with_matter⟩
    have c_is_between := ok_is_between (P := PySem.Challenge.rw_oncefound_k03_cells_valleys_and_matters.prog) (w := w) (base := base) (TT := TTof K tfs) T ⟨_, _, L_is_between, g_is_between, L_is_between.kp, B_is_between⟩ c_is_number
    have c_law_is_below := ok_law_is_below (P := PySem.Challenge.rw_oncefound_k03_cells_valleys_and_matters.prog) (w := w) (base := base) (TT := TTof K tfs) T ⟨_, _, L_law_is_below, g_law_is_below, L_law_is_below.kp, B_law_is_below⟩ c_law_is_whole
    have c_law_pick := ok_law_pick (P := PySem.Challenge.rw_oncefound_k03_cells_valleys_and_matters.prog) (w := w) (base := base) (TT := TTof K tfs) T ⟨_, _, L_law_pick, g_law_pick, L_law_pick.kp, B_law_pick⟩ c_law_draw
    have c_law_cell := ok_law_cell (P := PySem.Challenge.rw_oncefound_k03_cells_valleys_and_matters.prog) (w := w) (base := base) (TT := TTof K tfs) T ⟨_, _, L_law_cell, g_law_cell, L_law_cell.kp, B_law_cell⟩ c_law_draw
    have c_law_with_cell := ok_law_with_cell (P := PySem.Challenge.rw_oncefound_k03_cells_valleys_and_matters.prog) (w := w) (base := base) (TT := TTof K tfs) T ⟨_, _, L_law_with_cell, g_law_with_cell, L_law_with_cell.kp, B_law_with_cell⟩ c_law_put
    have c_law_lonely := ok_law_lonely (P := PySem.Challenge.rw_oncefound_k03_cells_valleys_and_matters.prog) (w := w) (base := base) (TT := TTof K tfs) T ⟨_, _, L_law_lonely, g_law_lonely, L_law_lonely.kp, B_law_lonely⟩ c_law_draw c_law_put
    have c_law_filled := ok_law_filled (P := PySem.Challenge.rw_oncefound_k03_cells_valleys_and_matters.prog) (w := w) (base := base) (TT := TTof K tfs) T ⟨_, _, L_law_filled, g_law_filled, L_law_filled.kp, B_law_filled⟩ c_law_draw
    have c_is_kind := ok_is_kind (P := PySem.Challenge.rw_oncefound_k03_cells_valleys_and_matters.prog) (w := w) (base := base) (TT := TTof K tfs) T ⟨_, _, L_is_kind, g_is_kind, L_is_kind.kp, B_is_kind⟩ c_is_between
    have c_is_cell := ok_is_cell (P := PySem.Challenge.rw_oncefound_k03_cells_valleys_and_matters.prog) (w := w) (base := base) (TT := TTof K tfs) T ⟨_, _, L_is_cell, g_is_cell, L_is_cell.kp, B_is_cell⟩ c_is_between
    have c_law_is_row := ok_law_is_row (P := PySem.Challenge.rw_oncefound_k03_cells_valleys_and_matters.prog) (w := w) (base := base) (TT := TTof K tfs) T ⟨_, _, L_law_is_row, g_law_is_row, L_law_is_row.kp, B_law_is_row⟩ c_law_is_below
    have c_law_bad_table := ok_law_bad_table (P := PySem.Challenge.rw_oncefound_k03_cells_valleys_and_matters.prog) (w := w) (base := base) (TT := TTof K tfs) T ⟨_, _, L_law_bad_table, g_law_bad_table, L_law_bad_table.kp, B_law_bad_table⟩ c_law_pick
    have c_law_spoilt_row := ok_law_spoilt_row (P := PySem.Challenge.rw_oncefound_k03_cells_valleys_and_matters.prog) (w := w) (base := base) (TT := TTof K tfs) T ⟨_, _, L_law_spoilt_row, g_law_spoilt_row, L_law_spoilt_row.kp, B_law_spoilt_row⟩ c_law_draw c_law_pick c_law_less c_law_put
    have c_law_wide := ok_law_wide (P := PySem.Challenge.rw_oncefound_k03_cells_valleys_and_matters.prog) (w := w) (base := base) (TT := TTof K tfs) T ⟨_, _, L_law_wide, g_law_wide, L_law_wide.kp, B_law_wide⟩ c_law_draw c_law_cell c_law_put
    have c_law_bad_number := ok_law_bad_number (P := PySem.Challenge.rw_oncefound_k03_cells_valleys_and_matters.prog) (w := w) (base := base) (TT := TTof K tfs) T ⟨_, _, L_law_bad_number, g_law_bad_number, L_law_bad_number.kp, B_law_bad_number⟩ c_law_pick
    have c_check_valley := ok_check_valley (P := PySem.Challenge.rw_oncefound_k03_cells_valleys_and_matters.prog) (w := w) (base := base) (TT := TTof K tfs) T ⟨_, _, L_check_valley, g_check_valley, L_check_valley.kp, B_check_valley⟩ c_is_between
    have c_check_matter := ok_check_matter (P := PySem.Challenge.rw_oncefound_k03_cells_valleys_and_matters.prog) (w := w) (base := base) (TT := TTof K tfs) T ⟨_, _, L_check_matter, g_check_matter, L_check_matter.kp, B_check_matter⟩ c_is_between
    have c_are_kinds := ok_are_kinds (P := PySem.Challenge.rw_oncefound_k03_cells_valleys_and_matters.prog) (w := w) (base := base) (TT := TTof K tfs) T ⟨_, _, L_are_kinds, g_are_kinds, L_are_kinds.kp, B_are_kinds⟩ c_is_kind
    have c_is_row_for := ok_is_row_for (P := PySem.Challenge.rw_oncefound_k03_cells_valleys_and_matters.prog) (w := w) (base := base) (TT := TTof K tfs) T ⟨_, _, L_is_row_for, g_is_row_for, L_is_row_for.kp, B_is_row_for⟩ c_is_cell
    have c_is_column := ok_is_column (P := PySem.Challenge.rw_oncefound_k03_cells_valleys_and_matters.prog) (w := w) (base := base) (TT := TTof K tfs) T ⟨_, _, L_is_column, g_is_column, L_is_column.kp, B_is_column⟩ c_is_cell
    have c_law_is_column := ok_law_is_column (P := PySem.Challenge.rw_oncefound_k03_cells_valleys_and_matters.prog) (w := w) (base := base) (TT := TTof K tfs) T ⟨_, _, L_law_is_column, g_law_is_column, L_law_is_column.kp, B_law_is_column⟩ c_law_is_row
    have c_are_rows := ok_are_rows (P := PySem.Challenge.rw_oncefound_k03_cells_valleys_and_matters.prog) (w := w) (base := base) (TT := TTof K tfs) T ⟨_, _, L_are_rows, g_are_rows, L_are_rows.kp, B_are_rows⟩ c_is_row_for c_first_unread
    have c_is_row := ok_is_row (P := PySem.Challenge.rw_oncefound_k03_cells_valleys_and_matters.prog) (w := w) (base := base) (TT := TTof K tfs) T ⟨_, _, L_is_row, g_is_row, L_is_row.kp, B_is_row⟩ c_check_table c_is_row_for
    have c_Table_init := ok_Table_init (P := PySem.Challenge.rw_oncefound_k03_cells_valleys_and_matters.prog) (w := w) (base := base) (TT := TTof K tfs) T (init2_of L_Table_init M_Table B_Table_init fun s us ws h1 h2 => match us, ws, h1, h2 with | [_], [_, _], _, _ => .of_eq (by obtain ⟨_, _, _, _, _, _, _, _, _, e, _⟩ := L_Table_init.ex; subst e; rfl)) c_are_kinds c_are_rows
    have c_law_made := ok_law_made (P := PySem.Challenge.rw_oncefound_k03_cells_valleys_and_matters.prog) (w := w) (base := base) (TT := TTof K tfs) T ⟨_, _, L_law_made, g_law_made, L_law_made.kp, B_law_made⟩ c_Table_init
    have c_with_rows := ok_with_rows (P := PySem.Challenge.rw_oncefound_k03_cells_valleys_and_matters.prog) (w := w) (base := base) (TT := TTof K tfs) T ⟨_, _, L_with_rows, g_with_rows, L_with_rows.kp, B_with_rows⟩ c_first_unread (hasX1_of E_AllUnread (init_x1 L_AllUnread_init sc_AllUnread_init rfl rfl rfl rfl rfl rfl rfl) B_AllUnread_init) c_Table_init
    have c_with_row := ok_with_row (P := PySem.Challenge.rw_oncefound_k03_cells_valleys_and_matters.prog) (w := w) (base := base) (TT := TTof K tfs) T ⟨_, _, L_with_row, g_with_row, L_with_row.kp, B_with_row⟩ c_is_row (hasX1_of E_TooMany (init_x1 L_TooMany_init sc_TooMany_init rfl rfl rfl rfl rfl rfl rfl) B_TooMany_init) c_Table_init
    have c_with_matter := ok_with_matter (P := PySem.Challenge.rw_oncefound_k03_cells_valleys_and_matters.prog) (w := w) (base := base) (TT := TTof K tfs) T ⟨_, _, L_with_matter, g_with_matter, L_with_matter.kp, B_with_matter⟩ c_check_table c_is_kind c_is_column (hasX1_of E_TooMany (init_x1 L_TooMany_init sc_TooMany_init rfl rfl rfl rfl rfl rfl rfl) B_TooMany_init) c_Table_init
    have c_read := ok_read (P := PySem.Challenge.rw_oncefound_k03_cells_valleys_and_matters.prog) (w := w) (base := base) (TT := TTof K tfs) T ⟨_, _, L_read, g_read, L_read.kp, B_read⟩ c_check_table c_check_valley c_check_matter c_is_cell c_with_cell c_with_rows
    have c_law_row_right := ok_law_row_right (P := PySem.Challenge.rw_oncefound_k03_cells_valleys_and_matters.prog) (w := w) (base := base) (TT := TTof K tfs) T ⟨_, _, funC_of F_law_row_right, g_law_row_right, L_law_row_right.kp, B_law_row_right⟩ c_law_pick c_law_made c_law_draw c_law_spoilt_row c_with_row c_law_is_row c_law_no_row c_law_no_room c_law_same c_law_with_row ⟨_, _, L_law_caught, g_law_caught, L_law_caught.kp, B_law_caught⟩ (makesAt_of hap TB (p := (("_law_row_right", none), "_law_row_right.<locals>.<lambda>")) (by simp [tfs]))
    have c_law_matter_right := ok_law_matter_right (P := PySem.Challenge.rw_oncefound_k03_cells_valleys_and_matters.prog) (w := w) (base := base) (TT := TTof K tfs) T ⟨_, _, funC_of F_law_matter_right, g_law_matter_right, L_law_matter_right.kp, B_law_matter_right⟩ c_law_draw c_law_made c_law_cell c_law_spoilt_row c_law_pick c_with_matter c_law_is_whole c_law_no_kind c_law_is_column c_law_no_column c_law_no_room c_law_same c_law_with_matter ⟨_, _, L_law_caught, g_law_caught, L_law_caught.kp, B_law_caught⟩ (makesAt_of hap TB (p := (("_law_matter_right", none), "_law_matter_right.<locals>.<lambda>")) (by simp [tfs]))
    have c_law_refused := ok_law_refused (P := PySem.Challenge.rw_oncefound_k03_cells_valleys_and_matters.prog) (w := w) (base := base) (TT := TTof K tfs) T ⟨_, _, funC_of F_law_refused, g_law_refused, L_law_refused.kp, B_law_refused⟩ c_law_draw c_law_pick ⟨_, _, L_law_caught, g_law_caught, L_law_caught.kp, B_law_caught⟩ (makesAt_of hap TB (p := (("_law_refused", none), "_law_refused.<locals>.<lambda>")) (by simp [tfs]))
    have c_law_read_right := ok_law_read_right (P := PySem.Challenge.rw_oncefound_k03_cells_valleys_and_matters.prog) (w := w) (base := base) (TT := TTof K tfs) T ⟨_, _, funC_of F_law_read_right, g_law_read_right, L_law_read_right.kp, B_law_read_right⟩ c_law_with_cell c_law_made c_read c_law_first_unread c_law_same c_law_bad_table c_law_bad_number c_law_pick c_law_refused c_law_no_table c_law_no_valley c_law_no_matter c_law_no_custom ⟨_, _, L_law_caught, g_law_caught, L_law_caught.kp, B_law_caught⟩ (makesAt_of hap TB (p := (("_law_read_right", none), "_law_read_right.<locals>.<lambda>")) (by simp [tfs]))
    have c_law := ok_law (P := PySem.Challenge.rw_oncefound_k03_cells_valleys_and_matters.prog) (w := w) (base := base) (TT := TTof K tfs) T (funC_of F_law) c_law_begun c_law_filled c_law_wide c_law_draw c_law_read_right c_law_cell c_law_lonely c_law_pick c_law_row_right c_law_matter_right c_law_bad_table c_law_made c_law_no_table c_with_row c_with_matter c_law_same ⟨_, _, L_law_caught, g_law_caught, L_law_caught.kp, B_law_caught⟩ (makesAt_of hap TB (p := (("law", none), "law.<locals>.<lambda>")) (by simp [tfs]))
    exact c_law.mono (by decide)
  · obtain ⟨oc, od, dV, kV, doc, pm, an, cdv, ct, osl, e, lk, hcd, hD, _⟩ := F_law.ex
    rcases hD with ⟨_, e2⟩ | ⟨e2, _⟩
    · subst e e2
      rfl
    · exact absurd rfl e2
end Lw
open PySem PySem.W PySem.Calls PyProof.Rows
set_option maxRecDepth 100000 in
set_option maxHeartbeats 0 in
theorem PySem.Challenge.cw_oncefound_k03_cells_valleys_and_matters_holds : PySem.Challenge.rw_oncefound_k03_cells_valleys_and_matters.Holds := by
  w_on; o_law
  refine HandSHeadRun.head_any (r := Lw.Rw) (q := view Lw.Rw.prog [74]) (H := Lw.hk) (ob := Lw.ob) (M := 6000) (loose := Lw.loose) (d := HandSHeadRun.topDef Lw.Rw.prog 74) (kwd := []) Lw.ob_eq (by kernel_rfl) (fun s => by kernel_rfl) Lw.run (by kernel_rfl) (by kernel_rfl) (by kernel_rfl) (by rfl) (by first | assumption | decide +kernel) (by decide +kernel) ⟨rfl, rfl, rfl, rfl, rfl, by decide +kernel⟩ ?hw ?hc
  case hw => w_witness2
  case hc =>
    refine DL.walkGE (l := PySem.Challenge.rw_oncefound_k03_cells_valleys_and_matters) (n := 63) (k := 35) (x := "script") (CX := fun _ => L2.CX0) rfl (by decide) (by kernel_rfl) ⟨rfl, by decide, by decide⟩ ?F (fun _ _ _ _ _ z => z)
    intro w mg fa h Y G hmg0
    obtain ⟨K, KX, c⟩ := Y
    have hmg : mg ("law" : PySem.Str) = some (.ref fa) := by
      have e : (HandSHeadRun.topDef Lw.Rw.prog 74).name = ("law" : PySem.Str) := by kernel_rfl
      rw [← e]
      exact hmg0
    exact ⟨K, KX, Lw.facts KX G hmg c⟩
