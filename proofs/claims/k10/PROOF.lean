import PyProof.Rows.All
import Wide.All
import OpenK.AllK
import Wide.FinOn
import HandS.Base
import HandS.Call
import HandS.List
import HandS.Comp
import HandS.Dict
import HandS.Iter
import HandS.Text
import HandS.Words
import HandS.Exc
import HandS.ExcOwn
import HandS.Lambda
import HandS.Evl
import HandS.ExcIs
import HandS.TupAny
import HandS.TupMul
import HandS.IsInst
import PyProof.Rows.NestShow
import HandS.Zip
import KE.KExcIs
import HandS.WordsExc
import HandS.EndTab
import HandS.MakeKwOnly
import KE.KDictZip
import KE.KDictItemsList
import HandS.ExcValue
import HandS.GenList
import HandS.HeadWalk
import HandS.HeadHook4
import HandS.HeadNt
import HandS.Head2
import HandS.HeadEnd
import KE.GoesEnum
import PyProof.EnumMake
import HandS.ExcInit
import HandS.ExcField
import HandS.CallLocal
import HandS.Style
import HandS.SortInts
import PyProof.NeKinds
import HandS.TupSets
import HandS.Set
import HandS.SetBool
import HandS.Strs
import HandS.SetFor
import KE.SortData
import PyProof.TupleOfSeq
import KE.KSortTup
import KE.KSortAsk
import HandS.TupLe
import KE.DataMinMax
import HandS.Conv
import KE.KDictSum
import PyProof.DictMoreH
import HandS.SetKeys
import HandS.Deep
import PyProof.Rows.SeqMore
import HandS.WordsDict
import HandS.SortKw
import KE.KDictCopyH
import HandS.DictComp
import HandS.More
import HandS.OwnEq
import PySem.Challenge.RW_oncefound_k10_trees_made_or_refused
set_option Elab.async false
set_option linter.all false
set_option maxRecDepth 100000
set_option maxHeartbeats 2222222
/-! data, and what holds it in the heap -/
namespace DL
open L2 PySem PySem.Spec PyProof.Rows
open Evl (Ex ex_l ex_t sz_of)

inductive D where
  | non | bl (b : Bool) | int (i : Int) | str (x : Str)
  | lst (xs : List D) | tup (xs : List D)
  | dic (ks : List Key) (ds : List D)
  | dit (ks : List (List Key)) (ds : List D)
  | ins (C : Addr) (ns : List Str) (ds : List D)
  | exc (C : Addr) (ns : List Str) (ds : List D)
  | fnv (f : Addr)

/-- an exception object that was caught -/
def ExT (C : Addr) (d : Option Addr) (a : Addr) : HO := .ext fun h => ∃ (oe : Obj) (vs : Array Value), h.get? a = some oe ∧ Zc (.ref C) d oe ∧ oe.data = .fields vs

/-- an own class is no built-in one -/
def NoTy (K : PySem.W.Frag) (C : Addr) : Prop := ∀ t ∈ ["int", "bool", "str", "tuple", "list", "dict"], PySem.W.kitOne K (.ref C) (.type t) = some false
/-- what the class at C must say, so that its instances may be asked -/
structure InC (K : PySem.W.Frag) (C : Addr) : Prop where
  cl : Cls K C
  ha : PySem.W.findIn K (.ref C) "__class__" = some (some (.builtin "object.__class__"))
  hn : PySem.W.specialIn K (.builtin "object.__class__") "__get__" = some (some (.builtin "getset_descriptor.__get__"))
  ht : PySem.W.takesIn K (.builtin "object.__class__") = some true
  hm : PySem.W.mroIn K C (.type "object") = some true
  nt : NoTy K C

mutual
inductive Dn (K : PySem.W.Frag) (H : Hp) : V → D → Prop
  | non : Dn K H .non .non
  | bl (b : Bool) : Dn K H (.bl b) (.bl b)
  | int (i : Int) : Dn K H (.int i) (.int i)
  | str (x : Str) : Dn K H (.str x) (.str x)
  | fnv (f : Addr) : Dn K H (.ref f) (.fnv f)
  | lst {a : Addr} {xs : List V} {ds : List D} : SqL K H a xs → DnA K H xs ds → Dn K H (.ref a) (.lst ds)
  | tup {a : Addr} {xs : List V} {ds : List D} (sq : SqT K H a xs) (da : DnA K H xs ds) (raw : H a = some (.tup xs) := by first | exact upd_same | assumption) : Dn K H (.ref a) (.tup ds)
  | dic {a : Addr} {kvs : List (Key × V)} {ks : List Key} {ds : List D} : H a = some (.dK kvs) → kvs.map (·.1) = ks → DnA K H (kvs.map (·.2)) ds → Dn K H (.ref a) (.dic ks ds)
  | dit {a : Addr} {kvs : List (List Key × V)} {ks : List (List Key)} {ds : List D} : H a = some (.dT kvs) → kvs.map (·.1) = ks → DnA K H (kvs.map (·.2)) ds → Dn K H (.ref a) (.dit ks ds)
  | ins {a C dx : Addr} {fs : List (Str × V)} {ns : List Str} {ds : List D} : InC K C → H a = some (.ins C dx fs) → fs.map (·.1) = ns → DnA K H (fs.map (·.2)) ds → Dn K H (.ref a) (.ins C ns ds)
  | exc {a C : Addr} {d : Option Addr} {fs : List (Str × V)} {ns : List Str} {ds : List D} : ExcC K C → NoTy K C → H a = some (ExT C d a) → (d = none ∧ fs = [] ∨ ∃ dd, d = some dd ∧ fs ≠ [] ∧ H dd = some (.xd fs)) → fs.map (·.1) = ns → DnA K H (fs.map (·.2)) ds → Dn K H (.ref a) (.exc C ns ds)
inductive DnA (K : PySem.W.Frag) (H : Hp) : List V → List D → Prop
  | nil : DnA K H [] []
  | cons {v : V} {vs : List V} {d : D} {ds : List D} : Dn K H v d → DnA K H vs ds → DnA K H (v :: vs) (d :: ds)
end

section
variable {K : PySem.W.Frag} {H H' : Hp}
mutual
theorem Dn.mono (e : Ex H H') : ∀ (d : D) {v : V}, Dn K H v d → Dn K H' v d
  | .non, _, h => by cases h; exact .non
  | .bl b, _, h => by cases h; exact .bl b
  | .int i, _, h => by cases h; exact .int i
  | .str x, _, h => by cases h; exact .str x
  | .fnv f, _, h => by cases h; exact .fnv f
  | .lst ds, _, h => by
    cases h with
    | lst h1 h2 => exact .lst (ex_l e h1) (DnA.mono e ds h2)
  | .tup ds, _, h => by
    cases h with
    | tup h1 h2 hr => exact .tup (ex_t e h1) (DnA.mono e ds h2) (e _ _ hr)
  | .dic ks ds, _, h => by
    cases h with
    | dic h1 h2 h3 => exact .dic (e _ _ h1) h2 (DnA.mono e ds h3)
  | .dit ks ds, _, h => by
    cases h with
    | dit h1 h2 h3 => exact .dit (e _ _ h1) h2 (DnA.mono e ds h3)
  | .ins C ns ds, _, h => by
    cases h with
    | ins hc h1 h2 h3 => exact .ins hc (e _ _ h1) h2 (DnA.mono e ds h3)
  | .exc C ns ds, _, h => by
    cases h with
    | exc hc ht h1 h0 h2 h3 =>
      refine .exc hc ht (e _ _ h1) ?_ h2 (DnA.mono e ds h3)
      rcases h0 with h0 | ⟨dd, h0, hne, h4⟩
      · exact .inl h0
      · exact .inr ⟨dd, h0, hne, e _ _ h4⟩
theorem DnA.mono (e : Ex H H') : ∀ (ds : List D) {vs : List V}, DnA K H vs ds → DnA K H' vs ds
  | [], _, h => by cases h; exact .nil
  | d :: ds, _, h => by
    cases h with
    | cons h1 h2 => exact .cons (Dn.mono e d h1) (DnA.mono e ds h2)
end
theorem Dn.up (e : Ex H H') {v : V} {d : D} (h : Dn K H v d) : Dn K H' v d := Dn.mono e d h
theorem DnA.up (e : Ex H H') {vs : List V} {ds : List D} (h : DnA K H vs ds) : DnA K H' vs ds := DnA.mono e ds h
theorem DnA.len : ∀ {vs : List V} {ds : List D}, DnA K H vs ds → vs.length = ds.length
  | [], _, h => by cases h; rfl
  | _ :: _, _, h => by
    cases h with
    | cons h1 h2 => rw [List.length_cons, List.length_cons, DnA.len h2]
theorem DnA.get : ∀ {vs : List V} {ds : List D} {i : Nat} {d : D}, DnA K H vs ds → ds[i]? = some d → ∃ v, vs[i]? = some v ∧ Dn K H v d
  | [], _, i, d, h, e => by cases h; simp at e
  | v :: vs, _, 0, d, h, e => by
    cases h with
    | cons h1 h2 =>
      simp at e
      subst e
      exact ⟨v, rfl, h1⟩
  | v :: vs, _, i + 1, d, h, e => by
    cases h with
    | cons h1 h2 =>
      obtain ⟨w, e1, e2⟩ := DnA.get (i := i) h2 (by simpa using e)
      exact ⟨w, by simpa using e1, e2⟩
theorem DnA.app : ∀ {vs us : List V} {ds es : List D}, DnA K H vs ds → DnA K H us es → DnA K H (vs ++ us) (ds ++ es)
  | [], _, _, _, h, g => by cases h; exact g
  | _ :: _, _, _, _, h, g => by
    cases h with
    | cons h1 h2 => exact .cons h1 (DnA.app h2 g)
theorem DnA.take : ∀ {vs : List V} {ds : List D} (n : Nat), DnA K H vs ds → DnA K H (vs.take n) (ds.take n)
  | _, _, 0, _ => by simp; exact .nil
  | [], _, n + 1, h => by cases h; exact .nil
  | _ :: _, _, n + 1, h => by
    cases h with
    | cons h1 h2 => exact .cons h1 (DnA.take n h2)
theorem DnA.drop : ∀ {vs : List V} {ds : List D} (n : Nat), DnA K H vs ds → DnA K H (vs.drop n) (ds.drop n)
  | _, _, 0, h => by simpa using h
  | [], _, n + 1, h => by cases h; exact .nil
  | _ :: _, _, n + 1, h => by
    cases h with
    | cons h1 h2 => exact DnA.drop n h2
theorem DnA.one {v : V} {d : D} (h : Dn K H v d) : DnA K H [v] [d] := .cons h .nil
theorem DnA.ints : ∀ (ns : List Int), DnA K H (ns.map V.int) (ns.map D.int)
  | [] => .nil
  | n :: ns => .cons (.int n) (DnA.ints ns)
end

/-! ### the source of draws, the tables of code, what is frozen -/
abbrev Tb := List (Addr × Str)
/-- the two objects that a draw changes -/
structure SA where
  a : Addr
  l : Addr
  c : Addr
  cs : List Int
abbrev LIM : Nat := 2 ^ 40
def kLarge : Key := .inr "large"
def kCells : Key := .inr "cells"
def kLeft : Key := .inr "left"
def kTurn : Key := .inr "turn"
/-- the source of draws stands; at most n draws were made -/
def StOk (K : PySem.W.Frag) (S : SA) (Hb H : Hp) (n : Nat) : Prop :=
  Hb S.a = none ∧ Hb S.l = none ∧ ∃ (ls cs : List Int) (m : Int) (t : Nat), S.c ≠ S.l ∧ S.c ≠ S.a ∧ S.a ≠ S.l ∧
    H S.a = some (.dK [(kLarge, .ref S.l), (kCells, .ref S.c), (kLeft, .int m), (kTurn, .int t)]) ∧ H S.l = some (.lst (ls.map V.int)) ∧ Hb S.c = some (.lst (cs.map V.int)) ∧
    (∀ x ∈ ls, 0 ≤ x) ∧ (∀ x ∈ cs, 0 ≤ x) ∧ 0 ≤ m ∧ t ≤ n ∧ ls.length ≤ 63 ∧ cs.length ≤ 63 ∧ cs = S.cs

/-- nothing lies at p, or a table of code -/
def Fresh (H : Hp) (p : Addr) : Prop := ∀ o, H p = some o → ∃ ps, o = .tbl ps
theorem fresh_none {H : Hp} {p : Addr} (h : H p = none) : Fresh H p := fun o e => by rw [h] at e; cases e
/-- an object that is no table of code -/
def Obn (H : Hp) (p : Addr) : Prop := ∃ o, H p = some o ∧ ∀ ps, o ≠ .tbl ps
theorem Fresh.ne {H : Hp} {p b : Addr} {o : HO} (f : Fresh H p) (h : H b = some o) (ho : ∀ ps, o ≠ .tbl ps) : b ≠ p := fun e => by
  subst e
  obtain ⟨ps, z⟩ := f _ h
  exact ho ps z
theorem Obn.ne {H : Hp} {p b : Addr} (w : Obn H b) (f : Fresh H p) : p ≠ b := by
  obtain ⟨o, h, ho⟩ := w
  exact (f.ne h ho).symm
theorem Obn.upd {H : Hp} {p b : Addr} {o : HO} (w : Obn H b) (ho : ∀ ps, o ≠ .tbl ps) : Obn (L2.upd H p o) b := by
  obtain ⟨u, h, hu⟩ := w
  by_cases e : b = p
  · exact ⟨o, by rw [e, upd_same], ho⟩
  · exact ⟨u, by rw [upd_ne e]; exact h, hu⟩
structure World (T : Tb) (S : SA) (Hb H : Hp) : Prop where
  ex : Ex Hb H
  tabs : LamX.Tabs T H
  tb : ∀ p ∈ T, Hb p.1 = none
  sa : Obn H S.a
  sl : Obn H S.l
  sc : Obn H S.c
  nt : ∀ b ps, Hb b ≠ some (.tbl ps)
theorem nt_upd {Hb : Hp} {p : Addr} {o : HO} (h : ∀ b ps, Hb b ≠ some (.tbl ps)) (ho : ∀ ps, o ≠ .tbl ps) : ∀ b ps, upd Hb p o b ≠ some (.tbl ps) := fun b ps z => by
  by_cases e : b = p
  · rw [e, upd_same] at z
    exact ho ps (Option.some.inj z)
  · rw [upd_ne e] at z
    exact h b ps z
/-- a step of the run: what is frozen stays and may grow, the source of draws stands, what is no one's business stays -/
structure Stp (K : PySem.W.Frag) (T : Tb) (S : SA) (Hb H : Hp) (n : Nat) (Hb' H' : Hp) (n' : Nat) : Prop where
  ex : Ex Hb Hb'
  wd : World T S Hb' H'
  st : StOk K S Hb H n → StOk K S Hb' H' n'
  own : ∀ p o, H p = some o → Hb p = none → p ≠ S.a → p ≠ S.l → (∀ ps, o ≠ .tbl ps) → H' p = some o ∧ Hb' p = none
  dm : ∀ p, Fresh H' p → Fresh H p
theorem dm_upd {H : Hp} {p : Addr} {o : HO} (ho : ∀ ps, o ≠ .tbl ps) : ∀ q, Fresh (upd H p o) q → Fresh H q := fun q h u e => by
  by_cases z : q = p
  · obtain ⟨ps, y⟩ := h o (by rw [z, upd_same])
    exact (ho ps y).elim
  · exact h u (by rw [upd_ne z]; exact e)
section
variable {K : PySem.W.Frag} {T : Tb} {S : SA} {Hb H Hb1 H1 Hb2 H2 : Hp} {n n1 n2 : Nat} {p : Addr} {o : HO}
theorem Stp.refl (w : World T S Hb H) : Stp K T S Hb H n Hb H n := ⟨Ex.refl _, w, fun h => h, fun _ _ h1 h2 _ _ _ => ⟨h1, h2⟩, fun _ h => h⟩
theorem Stp.trans (a : Stp K T S Hb H n Hb1 H1 n1) (b : Stp K T S Hb1 H1 n1 Hb2 H2 n2) : Stp K T S Hb H n Hb2 H2 n2 :=
  ⟨a.ex.trans b.ex, b.wd, fun h => b.st (a.st h), fun p o h1 h2 h3 h4 h5 =>
    let ⟨g1, g2⟩ := a.own p o h1 h2 h3 h4 h5
    b.own p o g1 g2 h3 h4 h5, fun p h => a.dm p (b.dm p h)⟩
theorem ex_upd (e : Ex Hb H) (h : H p = none) : Ex (upd Hb p o) (upd H p o) := fun b u q => by
  by_cases hb : b = p
  · subst hb; rw [upd_same] at q ⊢; exact q
  · rw [upd_ne hb] at q ⊢; exact e b u q
theorem free_of (e : Ex Hb H) (h : H p = none) : Hb p = none := Evl.fresh_back e h
theorem World.ne (w : World T S Hb H) (h : H p = none) {q : Addr × Str} (hq : q ∈ T) : q.1 ≠ p := by
  obtain ⟨ps, e, _⟩ := w.tabs q hq
  exact ne_of_none e h
theorem StOk.keep (k : ∀ b u, H b = some u → H1 b = some u) (kb : Ex Hb Hb1) (ka : Hb1 S.a = none) (kl : Hb1 S.l = none) (hn : n ≤ n1) (h : StOk K S Hb H n) : StOk K S Hb1 H1 n1 := by
  obtain ⟨_, _, ls, cs, m, t, h0, h1, h2, h3, h4, h5, h6, h7, h8, h9, h10⟩ := h
  exact ⟨ka, kl, ls, cs, m, t, h0, h1, h2, k _ _ h3, k _ _ h4, kb _ _ h5, h6, h7, h8, Nat.le_trans h9 hn, h10⟩
/-- a new object, frozen at once -/
theorem Stp.new (w : World T S Hb H) (hp : H p = none) (ho : ∀ ps, o ≠ .tbl ps := by intro _ z; cases z) : Stp K T S Hb H n (upd Hb p o) (upd H p o) n where
  ex := Ex.new (free_of w.ex hp)
  wd := ⟨ex_upd w.ex hp, fun q hq => (w.tabs q hq).ext (Ex.new hp), fun q hq => by rw [upd_ne (w.ne hp hq)]; exact w.tb q hq, w.sa.upd ho, w.sl.upd ho, w.sc.upd ho, nt_upd w.nt ho⟩
  st := fun h => by
    have ha : S.a ≠ p := by
      obtain ⟨_, _, ls, cs, m, t, _, _, _, h3, h4, _⟩ := h
      exact ne_of_none h3 hp
    have hl : S.l ≠ p := by
      obtain ⟨_, _, ls, cs, m, t, _, _, _, h3, h4, _⟩ := h
      exact ne_of_none h4 hp
    exact h.keep (Ex.new hp) (Ex.new (free_of w.ex hp)) (by rw [upd_ne ha]; exact h.1) (by rw [upd_ne hl]; exact h.2.1) (Nat.le_refl _)
  own := fun q u h1 h2 _ _ _ => by
    have hq : q ≠ p := ne_of_none h1 hp
    rw [upd_ne hq, upd_ne hq]
    exact ⟨h1, h2⟩
  dm := dm_upd ho
/-- a new object, not frozen -/
theorem Stp.newO (w : World T S Hb H) (hp : H p = none) (ho : ∀ ps, o ≠ .tbl ps := by intro _ z; cases z) : Stp K T S Hb H n Hb (upd H p o) n where
  ex := Ex.refl _
  wd := ⟨w.ex.trans (Ex.new hp), fun q hq => (w.tabs q hq).ext (Ex.new hp), w.tb, w.sa.upd ho, w.sl.upd ho, w.sc.upd ho, w.nt⟩
  st := fun h => h.keep (Ex.new hp) (Ex.refl _) h.1 h.2.1 (Nat.le_refl _)
  own := fun q u h1 h2 _ _ _ => by
    have hq : q ≠ p := ne_of_none h1 hp
    rw [upd_ne hq]
    exact ⟨h1, h2⟩
  dm := dm_upd ho
theorem Stp.le (w : World T S Hb H) (h : n ≤ n1) : Stp K T S Hb H n Hb H n1 := ⟨Ex.refl _, w, fun s => s.keep (fun _ _ q => q) (Ex.refl _) s.1 s.2.1 h, fun _ _ h1 h2 _ _ _ => ⟨h1, h2⟩, fun _ h => h⟩
end
end DL

/-! what a reading does to data -/
namespace DL
open L2 PySem PySem.Spec PyProof.Rows
open Evl (Ex ex_l ex_t sz_of)

/-- a lambda that takes one value and captures nothing -/
structure FV where
  q : Str
  ps : Arguments
  body : Expr
  scope : Scope
def LamV (F : FV) (c f : Addr) : HO := .ext fun h => ∃ pm ctv, h.get? f = some (PySem.W.kla_obj "<lambda>" F.q F.ps F.body F.scope [] pm c ctv)
/-- what a slot (or an argument) holds: nothing known, data, the source of draws, a list of one's own -/
inductive SV where
  | no | d (x : D) | st | ol (xs : List D) | me (x C : Addr) (ns : List Str) (ds : List D) | od (ks : List Key) (ds : List D) | ot (ks : List (List Key)) (ds : List D) | fv (F : FV)
/-- a list or an object of one's own -/
def isOwn : SV → Bool
  | .ol _ => true
  | .me _ _ _ _ => true
  | .od _ _ => true
  | .ot _ _ => true
  | _ => false
section
variable (K : PySem.W.Frag) (S : SA) (Hb H : Hp) (n : Nat)
def SlotOk : SV → Option V → Prop
  | .no, _ => True
  | .d x, o => ∃ v, o = some v ∧ Dn K Hb v x
  | .st, o => o = some (.ref S.a) ∧ StOk K S Hb H n
  | .ol xs, o => ∃ p vs, o = some (.ref p) ∧ H p = some (.lst vs) ∧ Hb p = none ∧ p ≠ S.a ∧ p ≠ S.l ∧ p ≠ S.c ∧ DnA K Hb vs xs
  | .me x C ns ds, o => o = some (.ref x) ∧ ∃ dx fs, H x = some (.ins C dx fs) ∧ Hb x = none ∧ x ≠ S.a ∧ x ≠ S.l ∧ x ≠ S.c ∧ fs.map (·.1) = ns ∧ DnA K Hb (fs.map (·.2)) ds
  | .od ks ds, o => ∃ p kvs, o = some (.ref p) ∧ H p = some (.dK kvs) ∧ Hb p = none ∧ p ≠ S.a ∧ p ≠ S.l ∧ p ≠ S.c ∧ kvs.map (·.1) = ks ∧ DnA K Hb (kvs.map (·.2)) ds
  | .ot ks ds, o => ∃ p kvs, o = some (.ref p) ∧ H p = some (.dT kvs) ∧ Hb p = none ∧ p ≠ S.a ∧ p ≠ S.l ∧ p ≠ S.c ∧ kvs.map (·.1) = ks ∧ DnA K Hb (kvs.map (·.2)) ds
  | .fv F, o => ∃ f c, o = some (.ref f) ∧ Hb f = some (LamV F c f) ∧ H c = some (LamX.CodeO c F.q) ∧ (∀ o, Hb c = some o → o = LamX.CodeO c F.q) ∧ c ≠ S.a ∧ c ≠ S.l
structure Slots (ρ : List SV) (σ : L2.St) : Prop where
  len : ρ.length = σ.length
  ok : ∀ (i : Nat) (s : SV), ρ[i]? = some s → ∃ o : Option V, σ[i]? = some o ∧ SlotOk K S Hb H n s o
  ap : ∀ (i j : Nat) (p : Addr) (xs ys : List D), i ≠ j → ρ[i]? = some (.ol xs) → ρ[j]? = some (.ol ys) → σ[i]? = some (some (.ref p)) → σ[j]? = some (some (.ref p)) → False
inductive Args : List SV → List V → Prop
  | nil : Args [] []
  | cons {s : SV} {v : V} {ss : List SV} {vs : List V} : SlotOk K S Hb H n s (some v) → Args ss vs → Args (s :: ss) (v :: vs)
end
abbrev DQ := D → Nat → Prop
abbrev DX := Addr → List Str → List D → Nat → Prop
abbrev DT := List SV → Nat → DQ → DX → Prop
abbrev DTA := List SV → Nat → (List SV → Nat → Prop) → DX → Prop
abbrev DTT := List SV → Nat → (Bool → Nat → Prop) → DX → Prop
abbrev DSp := List SV → Nat → DQ → DX → Prop

section
variable {K : PySem.W.Frag} {T : Tb} {S : SA} {Hb H Hb1 H1 Hb2 H2 : Hp} {n n1 n2 : Nat}
theorem SlotOk.step {s : SV} {o : Option V} (a : Stp K T S Hb H n Hb1 H1 n1) (h : SlotOk K S Hb H n s o) : SlotOk K S Hb1 H1 n1 s o := by
  cases s with
  | no => trivial
  | d x =>
    obtain ⟨v, e, h⟩ := h
    exact ⟨v, e, h.up a.ex⟩
  | st => exact ⟨h.1, a.st h.2⟩
  | ol xs =>
    obtain ⟨p, vs, e, h1, h2, h3, h4, hc, h5⟩ := h
    obtain ⟨g1, g2⟩ := a.own p _ h1 h2 h3 h4 (fun ps z => by cases z)
    exact ⟨p, vs, e, g1, g2, h3, h4, hc, h5.up a.ex⟩
  | me x C ns ds =>
    obtain ⟨e, dx, fs, h1, h2, h3, h4, hc, h5, h6⟩ := h
    obtain ⟨g1, g2⟩ := a.own x _ h1 h2 h3 h4 (fun ps z => by cases z)
    exact ⟨e, dx, fs, g1, g2, h3, h4, hc, h5, h6.up a.ex⟩
  | od ks ds =>
    obtain ⟨p, kvs, e, h1, h2, h3, h4, hc, h5, h6⟩ := h
    obtain ⟨g1, g2⟩ := a.own p _ h1 h2 h3 h4 (fun ps z => by cases z)
    exact ⟨p, kvs, e, g1, g2, h3, h4, hc, h5, h6.up a.ex⟩
  | ot ks ds =>
    obtain ⟨p, kvs, e, h1, h2, h3, h4, hc, h5, h6⟩ := h
    obtain ⟨g1, g2⟩ := a.own p _ h1 h2 h3 h4 (fun ps z => by cases z)
    exact ⟨p, kvs, e, g1, g2, h3, h4, hc, h5, h6.up a.ex⟩
  | fv F =>
    obtain ⟨f, c, e, h1, h2, h2b, h3, h4⟩ := h
    have no : ∀ ps, LamX.CodeO c F.q ≠ .tbl ps := fun ps z => by
      unfold LamX.CodeO at z
      cases z
    cases hc : Hb c with
    | none =>
      obtain ⟨g1, g2⟩ := a.own c _ h2 hc h3 h4 no
      exact ⟨f, c, e, a.ex _ _ h1, g1, (fun o z => by rw [g2] at z; cases z), h3, h4⟩
    | some o =>
      have z := h2b o hc
      subst z
      have g := a.ex _ _ hc
      exact ⟨f, c, e, a.ex _ _ h1, a.wd.ex _ _ g, (fun o z => by rw [g] at z; exact (Option.some.inj z).symm), h3, h4⟩
theorem Slots.step {ρ : List SV} {σ : L2.St} (a : Stp K T S Hb H n Hb1 H1 n1) (h : Slots K S Hb H n ρ σ) : Slots K S Hb1 H1 n1 ρ σ :=
  ⟨h.len, fun i s e => let ⟨o, e1, e2⟩ := h.ok i s e; ⟨o, e1, e2.step a⟩, h.ap⟩
theorem Args.step {ss : List SV} {vs : List V} (a : Stp K T S Hb H n Hb1 H1 n1) (h : Args K S Hb H n ss vs) : Args K S Hb1 H1 n1 ss vs := by
  induction h with
  | nil => exact .nil
  | cons h _ ih => exact .cons (h.step a) ih
theorem Args.len {ss : List SV} {vs : List V} (h : Args K S Hb H n ss vs) : ss.length = vs.length := by
  induction h with
  | nil => rfl
  | cons _ _ ih => simp [ih]
end

/-- what is wanted of a value, of a Bool, of arguments, of an exception, behind a step from here -/
def VOk (K : PySem.W.Frag) (T : Tb) (S : SA) (Hb H : Hp) (n : Nat) (P : DQ) (Q : VK) : Prop :=
  ∀ d v n' Hb' H', Stp K T S Hb H n Hb' H' n' → Dn K Hb' v d → P d n' → Q v H'
def BOk (K : PySem.W.Frag) (T : Tb) (S : SA) (Hb H : Hp) (n : Nat) (P : Bool → Nat → Prop) (Q : Bool → Hp → Prop) : Prop :=
  ∀ b n' Hb' H', Stp K T S Hb H n Hb' H' n' → P b n' → Q b H'
def AOk (K : PySem.W.Frag) (T : Tb) (S : SA) (Hb H : Hp) (n : Nat) (P : List SV → Nat → Prop) (Q : List V → Hp → Prop) : Prop :=
  ∀ ss vs n' Hb' H', Stp K T S Hb H n Hb' H' n' → Args K S Hb' H' n' ss vs → P ss n' → Q vs H'
def ExD (K : PySem.W.Frag) (Hb : Hp) (od : Option Addr) (ns : List Str) (ds : List D) : Prop :=
  ∃ fs : List (Str × V), (od = none ∧ fs = [] ∨ ∃ dd, od = some dd ∧ fs ≠ [] ∧ Hb dd = some (.xd fs)) ∧ fs.map (·.1) = ns ∧ DnA K Hb (fs.map (·.2)) ds
def XOk (K : PySem.W.Frag) (T : Tb) (S : SA) (Hb H : Hp) (n : Nat) (XP : DX) (E : XK) : Prop :=
  ∀ C ns ds n' od Hb' H', Stp K T S Hb H n Hb' H' n' → ExD K Hb' od ns ds → XP C ns ds n' → E (.ref C) od H'

def Rd (K : PySem.W.Frag) (T : Tb) (S : SA) (E : XK) (te : TE) (F : DT) : Prop :=
  ∀ σ ρ Hb H n P XP Q, World T S Hb H → Slots K S Hb H n ρ σ → F ρ n P XP → VOk K T S Hb H n P Q → XOk K T S Hb H n XP E → te σ H Q
def RdT (K : PySem.W.Frag) (T : Tb) (S : SA) (E : XK) (tt : TT) (F : DTT) : Prop :=
  ∀ σ ρ Hb H n P XP Q, World T S Hb H → Slots K S Hb H n ρ σ → F ρ n P XP → BOk K T S Hb H n P Q → XOk K T S Hb H n XP E → tt σ H Q
def RdA (K : PySem.W.Frag) (T : Tb) (S : SA) (E : XK) (ta : TA) (F : DTA) : Prop :=
  ∀ σ ρ Hb H n P XP Q, World T S Hb H → Slots K S Hb H n ρ σ → F ρ n P XP → AOk K T S Hb H n P Q → XOk K T S Hb H n XP E → ta σ H Q

/-- a def's promise by data -/
def spOf (K : PySem.W.Frag) (T : Tb) (DS : DSp) : Sp := fun vs H Q E => ∃ S Hb n ss P XP, World T S Hb H ∧ Args K S Hb H n ss vs ∧ DS ss n P XP ∧ VOk K T S Hb H n P Q ∧ XOk K T S Hb H n XP E

section
variable {K : PySem.W.Frag} {T : Tb} {S : SA} {E : XK} {Hb H Hb1 H1 : Hp} {n n1 : Nat} {P : DQ} {XP : DX} {Q : VK}
theorem VOk.step (a : Stp K T S Hb H n Hb1 H1 n1) (h : VOk K T S Hb H n P Q) : VOk K T S Hb1 H1 n1 P Q := fun d v n' Hb' H' s => h d v n' Hb' H' (a.trans s)
theorem XOk.step (a : Stp K T S Hb H n Hb1 H1 n1) (h : XOk K T S Hb H n XP E) : XOk K T S Hb1 H1 n1 XP E := fun C ns ds n' od Hb' H' s => h C ns ds n' od Hb' H' (a.trans s)
theorem VOk.now {v : V} {d : D} (h : VOk K T S Hb H n P Q) (w : World T S Hb H) (hv : Dn K Hb v d) (p : P d n) : Q v H := h d v n Hb H (.refl w) hv p
theorem VOk.new {d : D} {p : Addr} {o : HO} (h : VOk K T S Hb H n P Q) (w : World T S Hb H) (hp : H p = none) (hv : Dn K (upd Hb p o) (.ref p) d) (q : P d n) (ho : ∀ ps, o ≠ .tbl ps := by intro _ z; cases z) : Q (.ref p) (upd H p o) := h d _ n _ _ (.new w hp ho) hv q
def xF : DX := fun _ _ _ _ => False
theorem XOk.none {E : XK} : XOk K T S Hb H n xF E := fun _ _ _ _ _ _ _ _ _ h => h.elim
end

/-! ### names, constants -/
def slotD (ρ : List SV) (i : Nat) (k : D → Prop) : Prop := match ρ[i]? with
  | some (.d x) => k x
  | _ => False
def xVar (i : Nat) : DT := fun ρ n P _ => slotD ρ i fun x => P x n
def xC (d : D) : DT := fun _ n P _ => P d n
section
variable {K : PySem.W.Frag} {T : Tb} {S : SA} {E : XK}
theorem Slots.dat {Hb H : Hp} {n : Nat} {ρ : List SV} {σ : L2.St} {i : Nat} {k : D → Prop} (sl : Slots K S Hb H n ρ σ) (h : slotD ρ i k) : ∃ v d, σ[i]? = some (some v) ∧ Dn K Hb v d ∧ k d := by
  unfold slotD at h
  cases e : ρ[i]? with
  | none => rw [e] at h; exact h.elim
  | some s =>
    rw [e] at h
    cases s with
    | d x =>
      obtain ⟨o, e1, v, e2, e3⟩ := sl.ok i _ e
      exact ⟨v, x, by rw [e1, e2], e3, h⟩
    | no => exact h.elim
    | st => exact h.elim
    | ol xs => exact h.elim
    | me _ _ _ _ => exact h.elim
    | od _ _ => exact h.elim
    | ot _ _ => exact h.elim
    | fv _ => exact h.elim
theorem rd_var {i : Nat} : Rd K T S E (tVar i) (xVar i) := fun σ ρ Hb H n P XP Q w sl h q _ => by
  obtain ⟨v, d, e, hd, p⟩ := sl.dat h
  exact ⟨v, e, q.now w hd p⟩
theorem rd_int {i : Int} : Rd K T S E (tC (.int i)) (xC (.int i)) := fun σ ρ Hb H n P XP Q w sl h q _ => q.now w (.int i) h
theorem rd_bl {i : Bool} : Rd K T S E (tC (.bl i)) (xC (.bl i)) := fun σ ρ Hb H n P XP Q w sl h q _ => q.now w (.bl i) h
theorem rd_str {i : Str} : Rd K T S E (tC (.str i)) (xC (.str i)) := fun σ ρ Hb H n P XP Q w sl h q _ => q.now w (.str i) h
theorem rd_non : Rd K T S E (tC .non) (xC .non) := fun σ ρ Hb H n P XP Q w sl h q _ => q.now w .non h

/-! ### arguments -/
def xaNil : DTA := fun _ n P _ => P [] n
def xaCons (F : DT) (G : DTA) : DTA := fun ρ n P XP => F ρ n (fun d n1 => G ρ n1 (fun ss n2 => P (.d d :: ss) n2) XP) XP
def xaSt (i : Nat) (G : DTA) : DTA := fun ρ n P XP => ρ[i]? = some .st ∧ G ρ n (fun ss n2 => P (.st :: ss) n2) XP
theorem rda_nil : RdA K T S E tNil xaNil := fun σ ρ Hb H n P XP Q w sl h q _ => q [] [] n Hb H (.refl w) .nil h
theorem rda_cons {te : TE} {ta : TA} {F : DT} {G : DTA} (h1 : Rd K T S E te F) (h2 : RdA K T S E ta G) : RdA K T S E (tCons te ta) (xaCons F G) := fun σ ρ Hb H n P XP Q w sl h q x =>
  h1 σ ρ Hb H n _ XP _ w sl h (fun d v n1 Hb1 H1 s hd p => h2 σ ρ Hb1 H1 n1 _ XP _ s.wd (sl.step s) p (fun ss vs n2 Hb2 H2 s2 ha p2 => q _ _ n2 Hb2 H2 (s.trans s2) (.cons (s := .d d) ⟨v, rfl, hd.up s2.ex⟩ ha) p2) (x.step s)) x
theorem rda_st {i : Nat} {ta : TA} {G : DTA} (h2 : RdA K T S E ta G) : RdA K T S E (tCons (tVar i) ta) (xaSt i G) := fun σ ρ Hb H n P XP Q w sl h q x => by
  obtain ⟨e, h⟩ := h
  obtain ⟨o, e1, e2, e3⟩ := sl.ok i _ e
  refine ⟨.ref S.a, by rw [e1, e2], ?_⟩
  exact h2 σ ρ Hb H n _ XP _ w sl h (fun ss vs n2 Hb2 H2 s2 ha p2 => q _ _ n2 Hb2 H2 s2 (.cons (s := .st) ⟨rfl, s2.st e3⟩ ha) p2) x

/-! ### calls of defs -/
/-! ### operators by values -/
/-- an operator on data: where it may stand, what it yields -/
def Op2 (K : PySem.W.Frag) (r : R2) (f : D → D → (D → Prop) → Prop) : Prop :=
  ∀ {T : Tb} {S : SA} {x y : V} {a b : D} {Hb H : Hp} {n : Nat} {P : DQ} {Q : VK}, World T S Hb H → Dn K Hb x a → Dn K Hb y b → f a b (fun d => P d n) → VOk K T S Hb H n P Q → r x y H Q
def xOp (f : D → D → (D → Prop) → Prop) (F G : DT) : DT := fun ρ n P XP => F ρ n (fun a n1 => G ρ n1 (fun b n2 => f a b fun d => P d n2) XP) XP
theorem rd_op {r : R2} {f : D → D → (D → Prop) → Prop} {ta tb : TE} {F G : DT} (ho : Op2 K r f) (h1 : Rd K T S E ta F) (h2 : Rd K T S E tb G) : Rd K T S E (tOp r ta tb) (xOp f F G) := fun σ ρ Hb H n P XP Q w sl h q x =>
  h1 σ ρ Hb H n _ XP _ w sl h (fun d v n1 Hb1 H1 s hd p => h2 σ ρ Hb1 H1 n1 _ XP _ s.wd (sl.step s) p (fun e u n2 Hb2 H2 s2 he p2 => ho s2.wd (hd.up s2.ex) he p2 ((q.step s).step s2)) (x.step s)) x
def Op1 (K : PySem.W.Frag) (r : V → Hp → VK → Prop) (f : D → (D → Prop) → Prop) : Prop :=
  ∀ {T : Tb} {S : SA} {x : V} {a : D} {Hb H : Hp} {n : Nat} {P : DQ} {Q : VK}, World T S Hb H → Dn K Hb x a → f a (fun d => P d n) → VOk K T S Hb H n P Q → r x H Q
def xUn (f : D → (D → Prop) → Prop) (F : DT) : DT := fun ρ n P XP => F ρ n (fun a n1 => f a fun d => P d n1) XP
theorem rd_un {r : V → Hp → VK → Prop} {f : D → (D → Prop) → Prop} {ta : TE} {F : DT} (ho : Op1 K r f) (h1 : Rd K T S E ta F) : Rd K T S E (tUn r ta) (xUn f F) := fun σ ρ Hb H n P XP Q w sl h q x =>
  h1 σ ρ Hb H n _ XP _ w sl h (fun d v n1 Hb1 H1 s hd p => ho s.wd hd p (q.step s)) x
/-- a built-in's call on data -/
def Cal (K : PySem.W.Frag) (r : List V → Hp → VK → Prop) (f : List SV → (D → Prop) → Prop) : Prop :=
  ∀ {T : Tb} {S : SA} {vs : List V} {ss : List SV} {Hb H : Hp} {n : Nat} {P : DQ} {Q : VK}, World T S Hb H → Args K S Hb H n ss vs → f ss (fun d => P d n) → VOk K T S Hb H n P Q → r vs H Q
def xCB (f : List SV → (D → Prop) → Prop) (G : DTA) : DT := fun ρ n P XP => G ρ n (fun ss n1 => f ss fun d => P d n1) XP
theorem rd_cb {r : List V → Hp → VK → Prop} {f : List SV → (D → Prop) → Prop} {ta : TA} {G : DTA} (ho : Cal K r f) (h1 : RdA K T S E ta G) : Rd K T S E (tCB r ta) (xCB f G) := fun σ ρ Hb H n P XP Q w sl h q x =>
  h1 σ ρ Hb H n _ XP _ w sl h (fun ss vs n1 Hb1 H1 s ha p => ho s.wd ha p (q.step s)) x

/-! ### tests, and, or, not, if -/
def xB (F : DT) : DTT := fun ρ n P XP => F ρ n (fun d n1 => match d with | .bl b => P b n1 | _ => False) XP
theorem rdt_B {te : TE} {F : DT} (h1 : Rd K T S E te F) : RdT K T S E (tB te) (xB F) := fun σ ρ Hb H n P XP Q w sl h q x =>
  h1 σ ρ Hb H n _ XP _ w sl h (fun d v n1 Hb1 H1 s hd p => by
    cases d with
    | bl b => cases hd; exact ⟨b, rfl, q b n1 Hb1 H1 s p⟩
    | _ => exact p.elim) x
theorem rdt_test {te : TE} {F : DT} (h1 : Rd K T S E te F) : RdT K T S E (tTest te) (xB F) := fun σ ρ Hb H n P XP Q w sl h q x =>
  h1 σ ρ Hb H n _ XP _ w sl h (fun d v n1 Hb1 H1 s hd p => by
    cases d with
    | bl b => cases hd; exact ⟨b, rfl, q b n1 Hb1 H1 s p⟩
    | _ => exact p.elim) x
def xtAnd (F G : DTT) : DTT := fun ρ n P XP => F ρ n (fun b n1 => match b with | true => G ρ n1 P XP | false => P false n1) XP
def xtOr (F G : DTT) : DTT := fun ρ n P XP => F ρ n (fun b n1 => match b with | true => P true n1 | false => G ρ n1 P XP) XP
def xtNot (F : DTT) : DTT := fun ρ n P XP => F ρ n (fun b n1 => P (!b) n1) XP
variable {t u : TT} {F G : DTT} {te tf : TE} {FE GE : DT}
theorem BOk.step {Hb H Hb1 H1 : Hp} {n n1 : Nat} {P : Bool → Nat → Prop} {Q : Bool → Hp → Prop} (a : Stp K T S Hb H n Hb1 H1 n1) (h : BOk K T S Hb H n P Q) : BOk K T S Hb1 H1 n1 P Q := fun b n' Hb' H' s => h b n' Hb' H' (a.trans s)
theorem rdt_and (h1 : RdT K T S E t F) (h2 : RdT K T S E u G) : RdT K T S E (tAnd t u) (xtAnd F G) := fun σ ρ Hb H n P XP Q w sl h q x =>
  h1 σ ρ Hb H n _ XP _ w sl h (fun b n1 Hb1 H1 s p => by
    cases b with
    | true => exact iteT (h2 σ ρ Hb1 H1 n1 _ XP _ s.wd (sl.step s) p (q.step s) (x.step s))
    | false => exact iteF (q _ _ _ _ s p)) x
theorem rdt_or (h1 : RdT K T S E t F) (h2 : RdT K T S E u G) : RdT K T S E (tOr t u) (xtOr F G) := fun σ ρ Hb H n P XP Q w sl h q x =>
  h1 σ ρ Hb H n _ XP _ w sl h (fun b n1 Hb1 H1 s p => by
    cases b with
    | false => exact iteF (h2 σ ρ Hb1 H1 n1 _ XP _ s.wd (sl.step s) p (q.step s) (x.step s))
    | true => exact iteT (q _ _ _ _ s p)) x
theorem rdt_not (h1 : RdT K T S E t F) : RdT K T S E (tNot t) (xtNot F) := fun σ ρ Hb H n P XP Q w sl h q x =>
  h1 σ ρ Hb H n _ XP _ w sl h (fun b n1 Hb1 H1 s p => q _ _ _ _ s p) x
def xAndV (F G : DT) : DT := fun ρ n P XP => F ρ n (fun d n1 => match d with | .bl true => G ρ n1 P XP | .bl false => P (.bl false) n1 | _ => False) XP
def xNotV (F : DT) : DT := fun ρ n P XP => F ρ n (fun d n1 => match d with | .bl b => P (.bl (!b)) n1 | _ => False) XP
theorem rd_andV (h1 : Rd K T S E te FE) (h2 : Rd K T S E tf GE) : Rd K T S E (tAndV te tf) (xAndV FE GE) := fun σ ρ Hb H n P XP Q w sl h q x =>
  h1 σ ρ Hb H n _ XP _ w sl h (fun d v n1 Hb1 H1 s hd p => by
    cases d with
    | bl b =>
      cases hd
      cases b with
      | true => exact ⟨true, rfl, iteT (h2 σ ρ Hb1 H1 n1 _ XP _ s.wd (sl.step s) p (q.step s) (x.step s))⟩
      | false => exact ⟨false, rfl, iteF (q _ _ _ _ _ s (.bl false) p)⟩
    | _ => exact p.elim) x
theorem rd_notV (h1 : Rd K T S E te FE) : Rd K T S E (tNotV te) (xNotV FE) := fun σ ρ Hb H n P XP Q w sl h q x =>
  h1 σ ρ Hb H n _ XP _ w sl h (fun d v n1 Hb1 H1 s hd p => by
    cases d with
    | bl b => cases hd; exact ⟨b, rfl, q _ _ _ _ _ s (.bl _) p⟩
    | _ => exact p.elim) x
def xIf (F : DTT) (G1 G2 : DT) : DT := fun ρ n P XP => F ρ n (fun b n1 => match b with | true => G1 ρ n1 P XP | false => G2 ρ n1 P XP) XP
theorem rd_if {tb : TE} {G2 : DT} (h1 : RdT K T S E t F) (h2 : Rd K T S E te FE) (h3 : Rd K T S E tb G2) : Rd K T S E (tIf t te tb) (xIf F FE G2) := fun σ ρ Hb H n P XP Q w sl h q x =>
  h1 σ ρ Hb H n _ XP _ w sl h (fun b n1 Hb1 H1 s p => by
    cases b with
    | true => exact iteT (h2 σ ρ Hb1 H1 n1 _ XP _ s.wd (sl.step s) p (q.step s) (x.step s))
    | false => exact iteF (h3 σ ρ Hb1 H1 n1 _ XP _ s.wd (sl.step s) p (q.step s) (x.step s))) x

/-! ### tuples, lists as displays -/
def svD : SV → Option D
  | .d x => some x
  | _ => none
def allD : List SV → Option (List D)
  | [] => some []
  | s :: ss => match svD s, allD ss with
    | some d, some ds => some (d :: ds)
    | _, _ => none
theorem Args.allD {Hb H : Hp} {n : Nat} : ∀ {ss : List SV} {vs : List V} {ds : List D}, Args K S Hb H n ss vs → DL.allD ss = some ds → DnA K Hb vs ds
  | [], _, _, h, e => by
    cases h
    cases (Option.some.inj e)
    exact .nil
  | s :: ss, _, ds, h, e => by
    cases h with
    | cons h1 h2 =>
      unfold DL.allD at e
      cases s with
      | d x =>
        cases e2 : DL.allD ss with
        | none => rw [e2] at e; simp [svD] at e
        | some es =>
          rw [e2] at e
          simp [svD] at e
          subst e
          obtain ⟨v, q1, q2⟩ := h1
          cases q1
          exact .cons q2 (Args.allD h2 e2)
      | _ => simp [svD] at e
def xTup (G : DTA) : DT := fun ρ n P XP => G ρ n (fun ss n1 => ∃ ds, allD ss = some ds ∧ ds.length ≤ 100000 ∧ P (.tup ds) n1) XP
def xLst (G : DTA) : DT := fun ρ n P XP => G ρ n (fun ss n1 => ∃ ds, allD ss = some ds ∧ ds.length ≤ 100000 ∧ P (.lst ds) n1) XP
theorem rd_tup {ta : TA} {G : DTA} (h1 : RdA K T S E ta G) : Rd K T S E (tTup ta) (xTup G) := fun σ ρ Hb H n P XP Q w sl h q x =>
  h1 σ ρ Hb H n _ XP _ w sl h (fun ss vs n1 Hb1 H1 s ha p => by
    obtain ⟨ds, e, hl, p⟩ := p
    have hd := ha.allD e
    refine ⟨sz_of (by rw [hd.len]; exact hl), fun a hp => ?_⟩
    exact (q.step s).new s.wd hp (.tup (SqT.of upd_same) (hd.up (Ex.new (free_of s.wd.ex hp)))) p) x
theorem rd_lst {ta : TA} {G : DTA} (h1 : RdA K T S E ta G) : Rd K T S E (tLst ta) (xLst G) := fun σ ρ Hb H n P XP Q w sl h q x =>
  h1 σ ρ Hb H n _ XP _ w sl h (fun ss vs n1 Hb1 H1 s ha p => by
    obtain ⟨ds, e, hl, p⟩ := p
    have hd := ha.allD e
    refine ⟨sz_of (by rw [hd.len]; exact hl), fun a hp => ?_⟩
    exact (q.step s).new s.wd hp (.lst (SqL.of upd_same) (hd.up (Ex.new (free_of s.wd.ex hp)))) p) x
end
end DL

/-! operators, subscripts, built-in functions on data -/
namespace DL
open L2 PySem PySem.Spec PyProof.Rows
open Evl (Ex ex_l ex_t sz_of)
section
variable {K : PySem.W.Frag} {T : Tb} {S : SA} {E : XK} {Hb H : Hp} {n : Nat} {P : DQ} {Q : VK} {X : Cx}
theorem Op2.or {r r' : R2} {f : D → D → (D → Prop) → Prop} (h : ∀ {T : Tb} {S : SA} {x y : V} {a b : D} {Hb H : Hp} {n : Nat} {P : DQ} {Q : VK}, World T S Hb H → Dn K Hb x a → Dn K Hb y b → f a b (fun d => P d n) → VOk K T S Hb H n P Q → r x y H Q ∨ r' x y H Q) : Op2 K (fun x y H Q => r x y H Q ∨ r' x y H Q) f := h
/-- v as data of the heap as it stands -/
theorem World.dn (w : World T S Hb H) {v : V} {d : D} (h : Dn K Hb v d) : Dn K H v d := h.up w.ex
/-! ### + -/
def rAddU (K : PySem.W.Frag) : R2 := fun x y H Q => (rI0 (fun i j => .int (i + j))) x y H Q ∨ ((∃ i j, x = .str i ∧ y = .str j ∧ i.length + j.length ≤ sizeLine ∧ Q (.str (i ++ j)) H) ∨ rCatA K x y H Q)
theorem op_addU : OpR X (binaryOp .Add) (rAddU X.K) := OpR.or op_add (OpR.or op_add_str op_catA)
def addD : D → D → (D → Prop) → Prop
  | .int i, .int j, k => k (.int (i + j))
  | .str x, .str y, k => x.length + y.length ≤ 100000 ∧ k (.str (x ++ y))
  | .tup xs, .tup ys, k => xs.length + ys.length ≤ 100000 ∧ k (.tup (xs ++ ys))
  | _, _, _ => False
theorem o2_add : Op2 K (rAddU K) addD := by
  intro T S x y a b Hb H n P Q w hx hy h q
  cases hx with
  | int i =>
    cases hy with
    | int j => exact .inl ⟨i, j, rfl, rfl, q.now w (.int _) h⟩
    | _ => exact h.elim
  | str i =>
    cases hy with
    | str j => exact .inr (.inl ⟨i, j, rfl, rfl, sz_of h.1, q.now w (.str _) h.2⟩)
    | _ => exact h.elim
  | @tup a xs ds h1 h2 =>
    cases hy with
    | @tup b ys es h3 h4 =>
      obtain ⟨hl, h⟩ := h
      refine .inr (.inr ⟨a, b, xs, ys, rfl, rfl, ex_t w.ex h1, ex_t w.ex h3, sz_of (by rw [h2.len, h4.len]; exact hl), fun e => ?_, fun e e' => ?_, fun e e' p hp => ?_⟩)
      · subst e
        have z : ds = [] := by have := h2.len; simpa using this.symm
        subst z
        exact q.now w (.tup h3 h4) h
      · subst e'
        have z : es = [] := by have := h4.len; simpa using this.symm
        subst z
        rw [List.append_nil] at h
        exact q.now w (.tup h1 h2) h
      · exact q.new w hp (.tup (SqT.of upd_same) ((h2.app h4).up (Ex.new (free_of w.ex hp)))) h
    | _ => exact h.elim
  | _ => exact h.elim
def subD : D → D → (D → Prop) → Prop
  | .int i, .int j, k => k (.int (i - j))
  | _, _, _ => False
theorem o2_sub : Op2 K (rI0 fun i j => .int (i - j)) subD := by
  intro T S x y a b Hb H n P Q w hx hy h q
  cases hx with
  | int i =>
    cases hy with
    | int j => exact ⟨i, j, rfl, rfl, q.now w (.int _) h⟩
    | _ => exact h.elim
  | _ => exact h.elim
def intD (C : Int → Int → Prop) (g : Int → Int → Int) : D → D → (D → Prop) → Prop
  | .int i, .int j, k => C i j ∧ k (.int (g i j))
  | _, _, _ => False
theorem o2_int {C : Int → Int → Prop} {g : Int → Int → Int} : Op2 K (rI C fun i j => .int (g i j)) (intD C g) := by
  intro T S x y a b Hb H n P Q w hx hy h q
  cases hx with
  | int i =>
    cases hy with
    | int j => exact ⟨i, j, rfl, rfl, h.1, q.now w (.int _) h.2⟩
    | _ => exact h.elim
  | _ => exact h.elim
def cmpD (g : Int → Int → Bool) : D → D → (D → Prop) → Prop
  | .int i, .int j, k => k (.bl (g i j))
  | _, _, _ => False
theorem o2_cmp {g : Int → Int → Bool} : Op2 K (rI0 fun i j => .bl (g i j)) (cmpD g) := by
  intro T S x y a b Hb H n P Q w hx hy h q
  cases hx with
  | int i =>
    cases hy with
    | int j => exact ⟨i, j, rfl, rfl, q.now w (.bl _) h⟩
    | _ => exact h.elim
  | _ => exact h.elim
/-! ### * : of ints, a tuple times an int -/
def rMulU (K : PySem.W.Frag) : R2 := fun x y H Q => (rI CMul (fun i j => .int (i * j))) x y H Q ∨ rRepT K x y H Q
theorem op_mulU : OpR X (binaryOp .Mult) (rMulU X.K) := OpR.or op_mul op_repT
def mulD : D → D → (D → Prop) → Prop
  | .int i, .int j, k => CMul i j ∧ k (.int (i * j))
  | .tup xs, .int j, k => xs ≠ [] ∧ 2 ≤ j ∧ j ≤ 1000 ∧ xs.length ≤ 1000 ∧ k (.tup (List.replicate j.toNat xs).flatten)
  | _, _, _ => False
theorem DnA.rep {vs : List V} {ds : List D} (h : DnA K H vs ds) : ∀ m : Nat, DnA K H (List.replicate m vs).flatten (List.replicate m ds).flatten
  | 0 => .nil
  | m + 1 => by
    rw [List.replicate_succ, List.replicate_succ, List.flatten_cons, List.flatten_cons]
    exact h.app (DnA.rep h m)
theorem o2_mul : Op2 K (rMulU K) mulD := by
  intro T S x y a b Hb H n P Q w hx hy h q
  cases hx with
  | int i =>
    cases hy with
    | int j => exact .inl ⟨i, j, rfl, rfl, h.1, q.now w (.int _) h.2⟩
    | _ => exact h.elim
  | @tup a xs ds h1 h2 =>
    cases hy with
    | int j =>
      obtain ⟨h3, h4, h5, h6, h⟩ := h
      refine .inr ⟨a, j, xs, rfl, rfl, ex_t w.ex h1, fun e => h3 (by subst e; have := h2.len; simpa using this.symm), h4, h5, by rw [h2.len]; exact h6, fun p hp => ?_⟩
      exact q.new w hp (.tup (SqT.of upd_same) ((h2.rep _).up (Ex.new (free_of w.ex hp)))) h
    | _ => exact h.elim
  | _ => exact h.elim
/-! ### ==, !=, is None -/
mutual
def toP : D → Option PyData
  | .non => some .none
  | .bl b => some (.bool b)
  | .int i => some (.int i)
  | .str x => some (.str x)
  | .lst ds => (toPs ds).map .list
  | .tup ds => (toPs ds).map .tuple
  | _ => none
def toPs : List D → Option (List PyData)
  | [] => some []
  | d :: ds => match toP d, toPs ds with
    | some p, some ps => some (p :: ps)
    | _, _ => none
end
mutual
theorem Dn.toDp : ∀ (d : D) {v : V} {p : PyData}, Dn K H v d → toP d = some p → Dp K H v p
  | .non, _, _, h, e => by cases h; cases e; exact .non
  | .bl b, _, _, h, e => by cases h; cases e; exact .bl b
  | .int i, _, _, h, e => by cases h; cases e; exact .int i
  | .str x, _, _, h, e => by cases h; cases e; exact .str x
  | .lst ds, _, p, h, e => by
    cases h with
    | lst h1 h2 =>
      unfold toP at e
      cases e2 : toPs ds with
      | none => rw [e2] at e; cases e
      | some ps =>
        rw [e2] at e
        cases e
        exact .lst h1 (DnA.toDp ds h2 e2)
  | .tup ds, _, p, h, e => by
    cases h with
    | tup h1 h2 =>
      unfold toP at e
      cases e2 : toPs ds with
      | none => rw [e2] at e; cases e
      | some ps =>
        rw [e2] at e
        cases e
        exact .tup h1 (DnA.toDp ds h2 e2)
  | .dic _ _, _, _, h, e => by unfold toP at e; cases e
  | .dit _ _, _, _, h, e => by unfold toP at e; cases e
  | .ins _ _ _, _, _, h, e => by unfold toP at e; cases e
  | .exc _ _ _, _, _, h, e => by unfold toP at e; cases e
  | .fnv _, _, _, h, e => by unfold toP at e; cases e
theorem DnA.toDp : ∀ (ds : List D) {vs : List V} {ps : List PyData}, DnA K H vs ds → toPs ds = some ps → DpAll K H vs ps
  | [], _, _, h, e => by cases h; cases e; exact .nil
  | d :: ds, _, ps, h, e => by
    cases h with
    | cons h1 h2 =>
      unfold toPs at e
      cases e1 : toP d with
      | none => rw [e1] at e; cases e
      | some p =>
        cases e2 : toPs ds with
        | none => rw [e1, e2] at e; cases e
        | some qs =>
          rw [e1, e2] at e
          cases e
          exact .cons (Dn.toDp d h1 e1) (DnA.toDp ds h2 e2)
end
/-- == of what is no object -/
def eqP (f : Bool → Bool) : D → D → (D → Prop) → Prop
  | .int i, .int j, k => k (.bl (f (decide (i = j))))
  | .bl i, .bl j, k => k (.bl (f (decide (i = j))))
  | .str i, .str j, k => k (.bl (f (decide (i = j))))
  | a, b, k => ∃ p q, toP a = some p ∧ toP b = some q ∧ SeqAt.shaped p = true ∧ SeqAt.shaped q = true ∧ k (.bl (f (PyData.eqv p q)))
def eqD : D → D → (D → Prop) → Prop := eqP id
def neD : D → D → (D → Prop) → Prop := eqP not
theorem eqP_int {f : Bool → Bool} {i j : Int} {k : D → Prop} : eqP f (.int i) (.int j) k = k (.bl (f (decide (i = j)))) := rfl
theorem eqP_bl {f : Bool → Bool} {i j : Bool} {k : D → Prop} : eqP f (.bl i) (.bl j) k = k (.bl (f (decide (i = j)))) := rfl
theorem eqP_str {f : Bool → Bool} {i j : Str} {k : D → Prop} : eqP f (.str i) (.str j) k = k (.bl (f (decide (i = j)))) := rfl
def rEqU (K : PySem.W.Frag) : R2 := fun x y H Q => rEq x y H Q ∨ rEqD K x y H Q
def rNeU (K : PySem.W.Frag) : R2 := fun x y H Q => rNe x y H Q ∨ rNeD K x y H Q
theorem op_eqU {X : Cx} (hu : X.A.units + 64 < cLine) : OpR X (compareOp .Eq) (rEqU X.K) := fun pins s σ H x y u v Q I rx ry h => h.elim (op_eq pins s σ H x y u v Q I rx ry) (op_eqD hu pins s σ H x y u v Q I rx ry)
theorem op_neU {X : Cx} (hu : X.A.units + 64 < cLine) : OpR X (compareOp .NotEq) (rNeU X.K) := fun pins s σ H x y u v Q I rx ry h => h.elim (op_ne pins s σ H x y u v Q I rx ry) (op_neD hu pins s σ H x y u v Q I rx ry)
theorem decI {i j : Int} : decide (V.int i = V.int j) = decide (i = j) := by simp
theorem decB {i j : Bool} : decide (V.bl i = V.bl j) = decide (i = j) := by simp
theorem decS {i j : Str} : decide (V.str i = V.str j) = decide (i = j) := by simp
theorem o2_eq : Op2 K (rEqU K) eqD := by
  intro T S x y a b Hb H n P Q w hx hy h q
  unfold eqD eqP at h
  split at h
  · cases hx
    cases hy
    exact .inl ⟨rfl, q.now w (.bl _) (by rw [decI]; exact h)⟩
  · cases hx
    cases hy
    exact .inl ⟨rfl, q.now w (.bl _) (by rw [decB]; exact h)⟩
  · cases hx
    cases hy
    exact .inl ⟨rfl, q.now w (.bl _) (by rw [decS]; exact h)⟩
  · obtain ⟨p, r, e1, e2, s1, s2, h⟩ := h
    exact .inr ⟨p, r, Dn.toDp _ (w.dn hx) e1, Dn.toDp _ (w.dn hy) e2, s1, s2, q.now w (.bl _) h⟩
theorem o2_ne : Op2 K (rNeU K) neD := by
  intro T S x y a b Hb H n P Q w hx hy h q
  unfold neD eqP at h
  split at h
  · cases hx
    cases hy
    exact .inl ⟨rfl, q.now w (.bl _) (by rw [decI]; exact h)⟩
  · cases hx
    cases hy
    exact .inl ⟨rfl, q.now w (.bl _) (by rw [decB]; exact h)⟩
  · cases hx
    cases hy
    exact .inl ⟨rfl, q.now w (.bl _) (by rw [decS]; exact h)⟩
  · obtain ⟨p, r, e1, e2, s1, s2, h⟩ := h
    exact .inr ⟨p, r, Dn.toDp _ (w.dn hx) e1, Dn.toDp _ (w.dn hy) e2, s1, s2, q.now w (.bl _) h⟩
/-! ### in, not in -/
def inD : D → D → (D → Prop) → Prop := fun a b k => ∃ (i : Int) (ns : List Int), a = .int i ∧ b = .tup (ns.map .int) ∧ k (.bl (ns.any (· == i)))
theorem o2_in : Op2 K (rIn K false) inD := by
  intro T S x y a b Hb H n P Q w hx hy h q
  obtain ⟨i, ns, rfl, rfl, h⟩ := h
  cases hx
  cases hy with
  | @tup a xs ds h1 h2 =>
    have ev : ∀ {ns : List Int} {xs : List V}, DnA K Hb xs (ns.map D.int) → xs = ns.map V.int := by
      intro ns
      induction ns with
      | nil => intro xs h; cases h; rfl
      | cons m ns ih =>
        intro xs h
        cases h with
        | cons h1 h2 =>
          cases h1
          rw [ih h2]
          rfl
    have e := ev h2
    subst e
    refine ⟨a, _, rfl, .inr (ex_t w.ex h1), rfl, ?_, ?_⟩
    · simp [List.all_map]; intro x hx; rfl
    · refine q.now w (.bl _) ?_
      have ei : inV (V.int i) (ns.map V.int) = ns.any (· == i) := by
        unfold inV
        rw [List.any_map]
        rfl
      show P (.bl (if false = true then !inV (V.int i) (ns.map V.int) else inV (V.int i) (ns.map V.int))) n
      rw [if_neg Bool.false_ne_true, ei]
      exact h
def isNon : D → Bool
  | .non => true
  | _ => false
theorem Dn.isN {v : V} {d : D} (h : Dn K H v d) : decide (v = .non) = isNon d := by cases h <;> simp [isNon]
def isnD : D → D → (D → Prop) → Prop := fun a b k => b = .non ∧ k (.bl (!isNon a))
theorem o2_notN : Op2 K (fun x y H Q => y = .non ∧ Q (.bl (!decide (x = .non))) H) isnD := by
  intro T S x y a b Hb H n P Q w hx hy h q
  obtain ⟨rfl, h⟩ := h
  cases hy
  exact ⟨rfl, q.now w (.bl _) (by rw [hx.isN]; exact h)⟩
/-! ### in, not in: flat things in a list or a tuple -/
def flatD : D → Bool
  | .non | .bl _ | .int _ | .str _ => true
  | _ => false
/-! ### a <= b <= c -/
def xChain (f g : D → D → (D → Prop) → Prop) (F G I : DT) : DT := fun ρ n P XP => F ρ n (fun a n1 => G ρ n1 (fun b n2 => f a b fun d => match d with
  | .bl true => I ρ n2 (fun c n3 => g b c fun d => P d n3) XP
  | .bl false => P (.bl false) n2
  | _ => False) XP) XP
theorem rd_chain {r r' : R2} {f g : D → D → (D → Prop) → Prop} {ta tb tc : TE} {F G I : DT} (ho : Op2 K r f) (ho' : Op2 K r' g) (h1 : DL.Rd K T S E ta F) (h2 : DL.Rd K T S E tb G) (h3 : DL.Rd K T S E tc I) : DL.Rd K T S E (tChain r r' ta tb tc) (xChain f g F G I) := fun σ ρ Hb H n P XP Q w sl h q x =>
  h1 σ ρ Hb H n _ XP _ w sl h (fun d v n1 Hb1 H1 s hd p => h2 σ ρ Hb1 H1 n1 _ XP _ s.wd (sl.step s) p (fun e u n2 Hb2 H2 s2 he p2 => by
    refine ho (S := S) (P := fun d n => match d with
      | .bl true => I ρ n (fun c n3 => g e c fun d => P d n3) XP
      | .bl false => P (.bl false) n
      | _ => False) s2.wd (hd.up s2.ex) he p2 fun d3 v3 n3 Hb3 H3 s3 hd3 p3 => ?_
    cases d3 with
    | bl b =>
      cases hd3
      have st := (s.trans s2).trans s3
      cases b with
      | true =>
        refine ⟨true, rfl, iteT ?_⟩
        refine h3 σ ρ Hb3 H3 n3 _ XP _ s3.wd (sl.step st) p3 (fun c z n4 Hb4 H4 s4 hc p4 => ?_) (x.step st)
        exact ho' s4.wd ((he.up s3.ex).up s4.ex) hc p4 ((q.step st).step s4)
      | false => exact ⟨false, rfl, iteF (q _ _ _ _ _ st (.bl false) p3)⟩
    | _ => exact p3.elim) (x.step s)) x
/-! ### subscripts -/
def atD (xs : List D) (i : Int) : Option D := (ixN xs.length i).bind fun j => xs[j]?
theorem DnA.at {vs : List V} {ds : List D} {i : Int} {d : D} (h : DnA K H vs ds) (e : atD ds i = some d) : ∃ v, atI vs i = some v ∧ Dn K H v d := by
  unfold atD at e
  cases e1 : ixN ds.length i with
  | none => rw [e1] at e; cases e
  | some j =>
    rw [e1] at e
    obtain ⟨v, e2, hv⟩ := h.get (i := j) (by simpa using e)
    exact ⟨v, by unfold atI; rw [h.len, e1]; simpa using e2, hv⟩
def ixD : D → D → (D → Prop) → Prop
  | .lst xs, .int i, k => ∃ d, atD xs i = some d ∧ k d
  | .tup xs, .int i, k => ∃ d, atD xs i = some d ∧ k d
  | _, _, _ => False
theorem o2_ix : Op2 K (rIx K) ixD := by
  intro T S x y a b Hb H n P Q w hx hy h q
  cases hx with
  | @lst a xs ds h1 h2 =>
    cases hy with
    | int j =>
      obtain ⟨d, e, h⟩ := h
      obtain ⟨v, e2, hv⟩ := h2.at e
      exact .inl ⟨a, xs, j, v, rfl, rfl, ex_l w.ex h1, e2, q.now w hv h⟩
    | _ => exact h.elim
  | @tup a xs ds h1 h2 =>
    cases hy with
    | int j =>
      obtain ⟨d, e, h⟩ := h
      obtain ⟨v, e2, hv⟩ := h2.at e
      exact .inr (.inl ⟨a, xs, j, v, rfl, rfl, ex_t w.ex h1, e2, q.now w hv h⟩)
    | _ => exact h.elim
  | _ => exact h.elim
/-- d[k], the key in d -/
def keyD : D → Option Key
  | .int i => some (.inl i)
  | .str x => some (.inr x)
  | _ => none
def valD (ks : List Key) (ds : List D) (k : Key) : Option D := match ks, ds with
  | k' :: ks, d :: ds => if k' = k then some d else valD ks ds k
  | _, _ => none
/-! ### slices of tuples and lists -/
def cutD (xs : List D) (lo hi : Option Int) : List D := (xs.drop (HT.sIx xs.length 0 lo)).take (HT.sIx xs.length xs.length hi - HT.sIx xs.length 0 lo)
theorem DnA.cut {vs : List V} {ds : List D} (h : DnA K H vs ds) (lo hi : Option Int) : DnA K H (cutV vs lo hi) (cutD ds lo hi) := by
  unfold cutV cutD
  rw [h.len]
  exact (h.drop _).take _
def rSlU (K : PySem.W.Frag) : V → Option Int → Option Int → Hp → VK → Prop := fun x lo hi H Q => rSlL K x lo hi H Q ∨ (rSlA K x lo hi H Q ∨ rSlS x lo hi H Q)
theorem sl_U : SlR X (rSlU X.K) := SlR.or sl_list (SlR.or sl_tupA sl_str)
def slD : D → Option Int → Option Int → (D → Prop) → Prop
  | .lst xs, lo, hi, k => k (.lst (cutD xs lo hi))
  | .tup xs, lo, hi, k => k (.tup (cutD xs lo hi))
  | .str z, lo, hi, k => z.length ≤ 100000 ∧ k (.str (cutS z lo hi))
  | _, _, _, _ => False
abbrev DTO := List SV → Nat → (Option Int → Nat → Prop) → DX → Prop
def RdO (K : PySem.W.Frag) (T : Tb) (S : SA) (E : XK) (to : TO) (F : DTO) : Prop :=
  ∀ σ ρ Hb H n P XP (Q : Option Int → Hp → Prop), World T S Hb H → Slots K S Hb H n ρ σ → F ρ n P XP → (∀ o n' Hb' H', Stp K T S Hb H n Hb' H' n' → P o n' → Q o H') → XOk K T S Hb H n XP E → to σ H Q
def xoNone : DTO := fun _ n P _ => P none n
def xoSome (F : DT) : DTO := fun ρ n P XP => F ρ n (fun d n1 => match d with | .int i => P (some i) n1 | _ => False) XP
theorem rdo_none : RdO K T S E tNoPart xoNone := fun σ ρ Hb H n P XP Q w sl h q _ => q none n Hb H (.refl w) h
theorem rdo_some {te : TE} {F : DT} (h1 : DL.Rd K T S E te F) : RdO K T S E (tPart te) (xoSome F) := fun σ ρ Hb H n P XP Q w sl h q x =>
  h1 σ ρ Hb H n _ XP _ w sl h (fun d v n1 Hb1 H1 s hd p => by
    cases d with
    | int i => cases hd; exact ⟨i, rfl, q _ _ _ _ s p⟩
    | _ => exact p.elim) x
def xSl (F : DT) (G I : DTO) : DT := fun ρ n P XP => F ρ n (fun a n1 => G ρ n1 (fun lo n2 => I ρ n2 (fun hi n3 => slD a lo hi fun d => P d n3) XP) XP) XP
theorem rd_sl {te : TE} {tl th : TO} {F : DT} {G I : DTO} (h1 : DL.Rd K T S E te F) (h2 : RdO K T S E tl G) (h3 : RdO K T S E th I) : DL.Rd K T S E (tSl (rSlU K) te tl th) (xSl F G I) := fun σ ρ Hb H n P XP Q w sl h q x =>
  h1 σ ρ Hb H n _ XP _ w sl h (fun d v n1 Hb1 H1 s hd p => h2 σ ρ Hb1 H1 n1 _ XP _ s.wd (sl.step s) p (fun lo n2 Hb2 H2 s2 p2 => h3 σ ρ Hb2 H2 n2 _ XP _ s2.wd ((sl.step s).step s2) p2 (fun hi n3 Hb3 H3 s3 p3 => by
    have st := (s.trans s2).trans s3
    have hd3 := (hd.up s2.ex).up s3.ex
    have q3 := q.step st
    cases hd3 with
    | @lst a xs ds g1 g2 => exact .inl ⟨a, xs, rfl, ex_l s3.wd.ex g1, fun p hp => q3.new s3.wd hp (.lst (SqL.of upd_same) ((g2.cut lo hi).up (Ex.new (free_of s3.wd.ex hp)))) p3⟩
    | @tup a xs ds g1 g2 =>
      refine .inr (.inl ⟨a, xs, rfl, ex_t s3.wd.ex g1, fun e => ?_, fun _ p hp => q3.new s3.wd hp (.tup (SqT.of upd_same) ((g2.cut lo hi).up (Ex.new (free_of s3.wd.ex hp)))) p3⟩)
      have z : cutD ds lo hi = ds := by
        unfold cutD
        rw [← g2.len, e.1, e.2, g2.len]
        simp
      have p3 : P (.tup (cutD ds lo hi)) n3 := p3
      rw [z] at p3
      exact q3.now s3.wd (.tup g1 g2) p3
    | str z => exact .inr (.inr ⟨z, rfl, sz_of p3.1, q3.now s3.wd (.str _) p3.2⟩)
    | _ => exact p3.elim) ((x.step s).step s2)) (x.step s)) x
end
end DL

/-! repr, isinstance, len, all, tuple, list, int, abs on data -/
namespace DL
open L2 PySem PySem.Spec PyProof.Rows
open Evl (Ex ex_l ex_t sz_of)
section
variable {K : PySem.W.Frag} {T : Tb} {S : SA} {E : XK} {Hb H : Hp} {n : Nat} {P : DQ} {Q : VK} {X : Cx}
/-! ### repr -/
def okR (d : PyData) : Prop := d.showable = true ∧ d.hasDict = false ∧ d.depth ≤ 60 ∧ d.shown.length ≤ 100000
def rRepr (K : PySem.W.Frag) : List V → Hp → VK → Prop := fun xs H Q => ∃ v d, xs = [v] ∧ Dp K H v d ∧ okR d ∧ Q (.str d.shown) H
theorem call_repr (hg : X.A.guards = some []) (hu : X.A.units + 64 < cLine) : CallR X (.builtin "repr") (rRepr X.K) := by
  intro pins s σ H xs us Q I r h
  obtain ⟨v, d, rfl, hd, ⟨h1, h2, h3, h4⟩, q⟩ := h
  obtain ⟨u, rfl, ru⟩ : ∃ u, us = [u] ∧ RelV v u := by
    cases r with
    | cons a b => cases b; exact ⟨_, rfl, a⟩
  have seqs : ∀ a, u = .ref a → isDisplay d = true → wpAny (model X.prog X.w) X.A (call (.builtin "repr") [u]) (EP X pins σ Q) X.xe s := fun a e _ => by
    subst e
    obtain ⟨as, rd⟩ := Dp.reads I d v _ hd ru
    refine repr_of_reads' rd h1 (PyData.noDict_hsm h2) hg (by omega) (fun _ _ e => e) (fun h' u tk hk => ?_) (sz_of h4)
    exact ⟨.str d.shown, H, I.kept (h' := h') (t' := tk) hk, ⟨_, rfl⟩, q⟩
  cases hd with
  | non => cases ru; exact PySem.P.repr_of_none ⟨.str _, H, I.tok _, ⟨_, rfl⟩, q⟩
  | bl b => cases ru; exact PySem.P.repr_of_bool ⟨.str _, H, I.tok _, ⟨_, rfl⟩, q⟩
  | int i =>
    obtain ⟨t, rfl⟩ := ru
    exact PySem.P.repr_of_int (by simpa [PyData.showable] using h1) ⟨.str _, H, I.tok _, ⟨_, rfl⟩, q⟩
  | str x =>
    obtain ⟨t, rfl⟩ := ru
    exact PySem.P.repr_of_str ⟨.str _, H, I.tok _, ⟨_, rfl⟩, q⟩ (sz_of h4)
  | lst a b => exact seqs _ ru rfl
  | tup a b => exact seqs _ ru rfl
def reprD : List SV → (D → Prop) → Prop
  | [.d d], k => ∃ p, toP d = some p ∧ okR p ∧ k (.str p.shown)
  | _, _ => False
theorem cal_repr : Cal K (rRepr K) reprD := by
  intro T S vs ss Hb H n P Q w ha h q
  cases ha with
  | nil => exact h.elim
  | @cons s v ss vs h1 h2 =>
    cases h2 with
    | cons _ _ => cases s <;> exact h.elim
    | nil =>
      cases s with
      | d d =>
        obtain ⟨p, e, ok, h⟩ := h
        obtain ⟨v', e', hv⟩ := h1
        cases e'
        exact ⟨v, p, rfl, Dn.toDp d (w.dn hv) e, ok, q.now w (.str _) h⟩
      | _ => exact h.elim
/-- one argument that is data -/
def one1 (f : D → (D → Prop) → Prop) : List SV → (D → Prop) → Prop
  | [.d d], k => f d k
  | _, _ => False
theorem cal_one {r : List V → Hp → VK → Prop} {f : D → (D → Prop) → Prop} (h : ∀ {T : Tb} {S : SA} {v : V} {d : D} {Hb H : Hp} {n : Nat} {P : DQ} {Q : VK}, World T S Hb H → Dn K Hb v d → f d (fun d => P d n) → VOk K T S Hb H n P Q → r [v] H Q) : Cal K r (one1 f) := by
  intro T S vs ss Hb H n P Q w ha hf q
  cases ha with
  | nil => exact hf.elim
  | @cons s v ss vs h1 h2 =>
    cases h2 with
    | cons _ _ => cases s <;> exact hf.elim
    | nil =>
      cases s with
      | d d =>
        obtain ⟨v', e', hv⟩ := h1
        cases e'
        exact h w hv hf q
      | _ => exact hf.elim
def two2 (f : D → D → (D → Prop) → Prop) : List SV → (D → Prop) → Prop
  | [.d a, .d b], k => f a b k
  | _, _ => False
theorem cal_two {r : List V → Hp → VK → Prop} {f : D → D → (D → Prop) → Prop} (h : ∀ {T : Tb} {S : SA} {v u : V} {a b : D} {Hb H : Hp} {n : Nat} {P : DQ} {Q : VK}, World T S Hb H → Dn K Hb v a → Dn K Hb u b → f a b (fun d => P d n) → VOk K T S Hb H n P Q → r [v, u] H Q) : Cal K r (two2 f) := by
  intro T S vs ss Hb H n P Q w ha hf q
  cases ha with
  | nil => exact hf.elim
  | @cons s v ss vs h1 h2 =>
    cases h2 with
    | nil => cases s <;> exact hf.elim
    | @cons s' v' ss' vs' h3 h4 =>
      cases h4 with
      | cons _ _ => cases s <;> first | exact hf.elim | (cases s' <;> exact hf.elim)
      | nil =>
        cases s with
        | d d =>
          cases s' with
          | d e =>
            obtain ⟨_, e1, hv⟩ := h1
            obtain ⟨_, e2, hu⟩ := h3
            cases e1
            cases e2
            exact h w hv hu hf q
          | _ => exact hf.elim
        | _ => exact hf.elim
/-! ### len -/
def rLenU (K : PySem.W.Frag) : List V → Hp → VK → Prop := fun xs H Q => (∃ p ys, xs = [.ref p] ∧ (SqL K H p ys ∨ SqT K H p ys) ∧ Q (.int ys.length) H) ∨ ∃ z, xs = [.str z] ∧ z.length ≤ sizeLine ∧ Q (.int z.length) H
theorem call_lenU : CallR X (.builtin "len") (rLenU X.K) := CallR.or call_len_seq call_len_str
def lenD : D → (D → Prop) → Prop
  | .lst xs, k => k (.int xs.length)
  | .tup xs, k => k (.int xs.length)
  | .str z, k => z.length ≤ 100000 ∧ k (.int z.length)
  | _, _ => False
theorem cal_len : Cal K (rLenU K) (one1 lenD) := by
  refine cal_one ?_
  intro T S v d Hb H n P Q w hv h q
  cases hv with
  | lst h1 h2 => exact .inl ⟨_, _, rfl, .inl (ex_l w.ex h1), q.now w (.int _) (by rw [h2.len]; exact h)⟩
  | tup h1 h2 => exact .inl ⟨_, _, rfl, .inr (ex_t w.ex h1), q.now w (.int _) (by rw [h2.len]; exact h)⟩
  | str z => exact .inr ⟨_, rfl, sz_of h.1, q.now w (.int _) h.2⟩
  | _ => exact h.elim
/-! ### all, any -/
def blsD : List D → Option (List Bool)
  | [] => some []
  | .bl b :: ds => (blsD ds).map (b :: ·)
  | _ :: _ => none
theorem bls_of : ∀ {ds : List D} {vs : List V} {bs : List Bool}, DnA K H vs ds → blsD ds = some bs → vs = bs.map V.bl
  | [], _, bs, h, e => by cases h; cases e; rfl
  | d :: ds, _, bs, h, e => by
    cases h with
    | cons h1 h2 =>
      cases d with
      | bl b =>
        unfold blsD at e
        cases e2 : blsD ds with
        | none => rw [e2] at e; cases e
        | some cs =>
          rw [e2] at e
          cases e
          cases h1
          rw [bls_of h2 e2]
          rfl
      | _ => cases e
def allD' : D → (D → Prop) → Prop
  | .lst xs, k => ∃ bs, blsD xs = some bs ∧ k (.bl (bs.all id))
  | _, _ => False
theorem cal_all : Cal K (rAll K) (one1 allD') := by
  refine cal_one ?_
  intro T S v d Hb H n P Q w hv h q
  cases hv with
  | lst h1 h2 =>
    obtain ⟨bs, e, h⟩ := h
    refine ⟨_, bs, rfl, ?_, q.now w (.bl _) h⟩
    rw [← bls_of h2 e]
    exact ex_l w.ex h1
  | _ => exact h.elim
/-! ### tuple, list -/
def rTupOf (K : PySem.W.Frag) : List V → Hp → VK → Prop := fun xs H Q => ∃ p ys, xs = [.ref p] ∧ ((SqL K H p ys ∧ ∀ l, H l = none → Q (.ref l) (upd H l (.tup ys))) ∨ (SqT K H p ys ∧ Q (.ref p) H))
def tupD : D → (D → Prop) → Prop
  | .lst xs, k => k (.tup xs)
  | .tup xs, k => k (.tup xs)
  | _, _ => False
theorem call_tupU : CallR X (.type "tuple") (rTupOf X.K) := call_tuple_of
theorem cal_tuple : Cal K (rTupOf K) (one1 tupD) := by
  refine cal_one ?_
  intro T S v d Hb H n P Q w hv h q
  cases hv with
  | lst h1 h2 => exact ⟨_, _, rfl, .inl ⟨ex_l w.ex h1, fun p hp => q.new w hp (.tup (SqT.of upd_same) (h2.up (Ex.new (free_of w.ex hp)))) h⟩⟩
  | tup h1 h2 => exact ⟨_, _, rfl, .inr ⟨ex_t w.ex h1, q.now w (.tup h1 h2) h⟩⟩
  | _ => exact h.elim
def lstD : D → (D → Prop) → Prop
  | .lst xs, k => k (.lst xs)
  | .tup xs, k => k (.lst xs)
  | _, _ => False
def rListU (K : PySem.W.Frag) : List V → Hp → VK → Prop := fun xs H Q => ∃ p ys, xs = [.ref p] ∧ (SqL K H p ys ∨ SqT K H p ys) ∧ ∀ l, H l = none → Q (.ref l) (upd H l (.lst ys))
theorem call_rListU : CallR X (.type "list") (rListU X.K) := call_list_of
theorem cal_list : Cal K (rListU K) (one1 lstD) := by
  refine cal_one ?_
  intro T S v d Hb H n P Q w hv h q
  cases hv with
  | lst h1 h2 => exact ⟨_, _, rfl, .inl (ex_l w.ex h1), fun p hp => q.new w hp (.lst (SqL.of upd_same) (h2.up (Ex.new (free_of w.ex hp)))) h⟩
  | tup h1 h2 => exact ⟨_, _, rfl, .inr (ex_t w.ex h1), fun p hp => q.new w hp (.lst (SqL.of upd_same) (h2.up (Ex.new (free_of w.ex hp)))) h⟩
  | _ => exact h.elim
/-! ### ints -/
def int1D : D → (D → Prop) → Prop
  | .int i, k => k (.int i)
  | _, _ => False
def rInt1 : List V → Hp → VK → Prop := fun xs H Q => (∃ i, xs = [.int i] ∧ Q (.int i) H) ∨ ∃ k, xs = [.bl k] ∧ Q (.int (if k then 1 else 0)) H
theorem call_rInt1 : CallR X (.type "int") rInt1 := call_int1
theorem cal_int : Cal K (rInt1) (one1 int1D) := by
  refine cal_one ?_
  intro T S v d Hb H n P Q w hv h q
  cases hv with
  | int i => exact .inl ⟨_, rfl, q.now w (.int _) h⟩
  | _ => exact h.elim
def rAbs : List V → Hp → VK → Prop := fun xs H Q => ∃ i, xs = [.int i] ∧ Q (.int (if i < 0 then -i else i)) H
theorem call_rAbs : CallR X (.builtin "abs") rAbs := call_abs
def maxD : D → D → (D → Prop) → Prop
  | .int i, .int j, k => k (.int (if j > i then j else i))
  | _, _, _ => False
def minD : D → D → (D → Prop) → Prop
  | .int i, .int j, k => k (.int (if j < i then j else i))
  | _, _, _ => False
def rMin2 : List V → Hp → VK → Prop := fun xs H Q => ∃ i j, xs = [.int i, .int j] ∧ Q (.int (if j < i then j else i)) H
theorem call_rMin2 (hc : X.calm = true) : CallR X (.builtin "min") rMin2 := call_min2 hc
theorem cal_min2 : Cal K (rMin2) (two2 minD) := by
  refine cal_two ?_
  intro T S v u a b Hb H n P Q w hv hu h q
  cases hv with
  | int i =>
    cases hu with
    | int j => exact ⟨_, _, rfl, q.now w (.int _) h⟩
    | _ => exact h.elim
  | _ => exact h.elim
def negD : D → (D → Prop) → Prop
  | .int i, k => k (.int (-i))
  | _, _ => False
theorem o1_neg : Op1 K (rU fun i => .int (-i)) negD := by
  intro T S x a Hb H n P Q w hx h q
  cases hx with
  | int i => exact ⟨i, rfl, q.now w (.int _) h⟩
  | _ => exact h.elim
end
end DL

/-! statements, targets, what is walked, comprehensions, displays, fields, isinstance on data -/
namespace DL
open L2 PySem PySem.Spec PyProof.Rows
open Evl (Ex ex_l ex_t sz_of)

/-! ### statements -/
structure DEn where
  nx : List SV → Nat → Prop
  rt : DQ
  bk : List SV → Nat → Prop := fun _ _ => False
  ct : List SV → Nat → Prop := fun _ _ => False
abbrev DTS := DEn → List SV → Nat → DX → Prop
/-- the lists of one's own are younger than the base -/
def OwF (H0 : Hp) (ρ : List SV) (σ : L2.St) : Prop := ∀ (i : Nat) (xs : SV) (p : Addr), ρ[i]? = some xs → isOwn xs = true → σ[i]? = some (some (.ref p)) → Fresh H0 p
structure Sl0 (K : PySem.W.Frag) (S : SA) (H0 Hb H : Hp) (n : Nat) (ρ : List SV) (σ : L2.St) : Prop where
  sl : Slots K S Hb H n ρ σ
  fr : OwF H0 ρ σ
def NOk (K : PySem.W.Frag) (T : Tb) (S : SA) (Hb H : Hp) (n : Nat) (Hc : Hp) (P : List SV → Nat → Prop) (Q : L2.St → Hp → Prop) : Prop :=
  ∀ ρ σ n' Hb' H', Ex Hc Hb' → Stp K T S Hb H n Hb' H' n' → Sl0 K S H Hb' H' n' ρ σ → P ρ n' → Q σ H'
/-- Hc: what is frozen now -/
structure EOk (K : PySem.W.Frag) (T : Tb) (S : SA) (Hb H : Hp) (n : Nat) (Hc : Hp) (DD : DEn) (D : Ends) : Prop where
  nx : NOk K T S Hb H n Hc DD.nx D.nx
  rt : VOk K T S Hb H n DD.rt D.rt
  bk : NOk K T S Hb H n Hc DD.bk D.bk
  ct : NOk K T S Hb H n Hc DD.ct D.ct
/-- from the base Hb0 H0 n0 (a def's entry) the run has come to Hb H n -/
def RdS (K : PySem.W.Frag) (T : Tb) (S : SA) (E : XK) (ts : TS) (G : DTS) : Prop :=
  ∀ σ ρ Hb0 H0 n0 Hb H n DD XP D, Stp K T S Hb0 H0 n0 Hb H n → Sl0 K S H0 Hb H n ρ σ → G DD ρ n XP → EOk K T S Hb0 H0 n0 Hb DD D → XOk K T S Hb0 H0 n0 XP E → ts D σ H
section
variable {K : PySem.W.Frag} {T : Tb} {S : SA} {E : XK} {Hb H Hb1 H1 H0 : Hp} {n n1 : Nat}
/-- a slot is stored -/
theorem Slots.set {ρ : List SV} {σ : L2.St} {i : Nat} {v : V} {d : D} (sl : Slots K S Hb H n ρ σ) (h : Dn K Hb v d) : Slots K S Hb H n (ρ.set i (.d d)) (σ.set i (some v)) where
  len := by rw [List.length_set, List.length_set]; exact sl.len
  ok := fun j s e => by
    by_cases hj : i = j
    · subst hj
      have hl : i < ρ.length := by
        have := (List.getElem?_eq_some_iff.mp e).1
        rwa [List.length_set] at this
      rw [List.getElem?_set_self hl] at e
      cases e
      exact ⟨some v, List.getElem?_set_self (by rw [← sl.len]; exact hl), v, rfl, h⟩
    · rw [List.getElem?_set_ne hj] at e
      obtain ⟨o, e1, e2⟩ := sl.ok j s e
      exact ⟨o, by rw [List.getElem?_set_ne hj]; exact e1, e2⟩
  ap := fun j k p xs ys hjk ej ek sj sk => by
    by_cases h1 : i = j
    · subst h1
      have hl : i < ρ.length := by
        have := (List.getElem?_eq_some_iff.mp ej).1
        rwa [List.length_set] at this
      rw [List.getElem?_set_self hl] at ej
      cases ej
    · by_cases h2 : i = k
      · subst h2
        have hl : i < ρ.length := by
          have := (List.getElem?_eq_some_iff.mp ek).1
          rwa [List.length_set] at this
        rw [List.getElem?_set_self hl] at ek
        cases ek
      · rw [List.getElem?_set_ne h1] at ej sj
        rw [List.getElem?_set_ne h2] at ek sk
        exact sl.ap j k p xs ys hjk ej ek sj sk
theorem Slots.forget {ρ : List SV} {σ : L2.St} {i : Nat} {o : Option V} (sl : Slots K S Hb H n ρ σ) : Slots K S Hb H n (ρ.set i .no) (σ.set i o) where
  len := by rw [List.length_set, List.length_set]; exact sl.len
  ok := fun j s e => by
    by_cases hj : i = j
    · subst hj
      have hl : i < ρ.length := by
        have := (List.getElem?_eq_some_iff.mp e).1
        rwa [List.length_set] at this
      rw [List.getElem?_set_self hl] at e
      cases e
      exact ⟨o, List.getElem?_set_self (by rw [← sl.len]; exact hl), trivial⟩
    · rw [List.getElem?_set_ne hj] at e
      obtain ⟨o, e1, e2⟩ := sl.ok j s e
      exact ⟨o, by rw [List.getElem?_set_ne hj]; exact e1, e2⟩
  ap := fun j k p xs ys hjk ej ek sj sk => by
    by_cases h1 : i = j
    · subst h1
      have hl : i < ρ.length := by
        have := (List.getElem?_eq_some_iff.mp ej).1
        rwa [List.length_set] at this
      rw [List.getElem?_set_self hl] at ej
      cases ej
    · by_cases h2 : i = k
      · subst h2
        have hl : i < ρ.length := by
          have := (List.getElem?_eq_some_iff.mp ek).1
          rwa [List.length_set] at this
        rw [List.getElem?_set_self hl] at ek
        cases ek
      · rw [List.getElem?_set_ne h1] at ej sj
        rw [List.getElem?_set_ne h2] at ek sk
        exact sl.ap j k p xs ys hjk ej ek sj sk
def wipeS (ρ : List SV) : List Nat → List SV
  | [] => ρ
  | v :: vs => (wipeS ρ vs).set v .no
theorem Slots.wiped {ρ : List SV} {σ : L2.St} (sl : Slots K S Hb H n ρ σ) : ∀ vs : List Nat, Slots K S Hb H n (wipeS ρ vs) (wipe σ vs)
  | [] => sl
  | v :: vs => (Slots.wiped sl vs).forget

theorem OwF.set {ρ : List SV} {σ : L2.St} {i : Nat} {s : SV} {o : Option V} (f : OwF H0 ρ σ) (hs : isOwn s = false) : OwF H0 (ρ.set i s) (σ.set i o) := fun j xs p e1 eo e2 => by
  by_cases hj : i = j
  · subst hj
    have hl : i < ρ.length := by
      have := (List.getElem?_eq_some_iff.mp e1).1
      rwa [List.length_set] at this
    rw [List.getElem?_set_self hl] at e1
    rw [← Option.some.inj e1, hs] at eo
    cases eo
  · rw [List.getElem?_set_ne hj] at e1 e2
    exact f j xs p e1 eo e2
theorem Sl0.step {ρ : List SV} {σ : L2.St} (a : Stp K T S Hb H n Hb1 H1 n1) (h : Sl0 K S H0 Hb H n ρ σ) : Sl0 K S H0 Hb1 H1 n1 ρ σ := ⟨h.sl.step a, h.fr⟩
theorem Sl0.set {ρ : List SV} {σ : L2.St} {i : Nat} {v : V} {d : D} (sl : Sl0 K S H0 Hb H n ρ σ) (h : Dn K Hb v d) : Sl0 K S H0 Hb H n (ρ.set i (.d d)) (σ.set i (some v)) := ⟨sl.sl.set h, sl.fr.set rfl⟩

theorem NOk.up {Hb0 Hc Hc' : Hp} {n0 : Nat} {P : List SV → Nat → Prop} {Q : L2.St → Hp → Prop} (e : Ex Hc Hc') (h : NOk K T S Hb0 H0 n0 Hc P Q) : NOk K T S Hb0 H0 n0 Hc' P Q := fun ρ σ n' Hb' H' e' => h ρ σ n' Hb' H' (e.trans e')
theorem EOk.up {Hb0 Hc Hc' : Hp} {n0 : Nat} {DD : DEn} {D : Ends} (e : Ex Hc Hc') (h : EOk K T S Hb0 H0 n0 Hc DD D) : EOk K T S Hb0 H0 n0 Hc' DD D := ⟨h.nx.up e, h.rt, h.bk.up e, h.ct.up e⟩
def xsSeq (F G : DTS) : DTS := fun DD ρ n XP => F { DD with nx := fun ρ' n' => G DD ρ' n' XP } ρ n XP
def xsNext : DTS := fun DD ρ n _ => DD.nx ρ n
def xsSet (i : Nat) (F : DT) : DTS := fun DD ρ n XP => F ρ n (fun d n1 => DD.nx (ρ.set i (.d d)) n1) XP
def xsRet (F : DT) : DTS := fun DD ρ n XP => F ρ n DD.rt XP
def xsIf (F : DTT) (G1 G2 : DTS) : DTS := fun DD ρ n XP => F ρ n (fun b n1 => match b with | true => G1 DD ρ n1 XP | false => G2 DD ρ n1 XP) XP
variable {t u : TS} {F G : DTS} {te : TE} {FE : DT}
theorem rds_seq (h1 : RdS K T S E t F) (h2 : RdS K T S E u G) : RdS K T S E (tSeq t u) (xsSeq F G) := fun σ ρ Hb0 H0 n0 Hb H n DD XP D a sl h q x =>
  h1 σ ρ Hb0 H0 n0 Hb H n _ XP _ a sl h ⟨fun ρ' σ' n' Hb' H' e s sl' p => h2 σ' ρ' Hb0 H0 n0 Hb' H' n' DD XP D s sl' p (q.up e) x, q.rt, q.bk, q.ct⟩ x
theorem rds_next : RdS K T S E tNext xsNext := fun σ ρ Hb0 H0 n0 Hb H n DD XP D a sl h q x => q.nx ρ σ n Hb H (Ex.refl _) a sl h
theorem rds_set {i : Nat} (h1 : DL.Rd K T S E te FE) : RdS K T S E (tAsg te (gName i)) (xsSet i FE) := fun σ ρ Hb0 H0 n0 Hb H n DD XP D a sl h q x =>
  h1 σ ρ Hb H n _ XP _ a.wd sl.sl h (fun d v n1 Hb1 H1 s hd p => q.nx _ _ n1 Hb1 H1 s.ex (a.trans s) ((sl.step s).set hd) p) (x.step a)
theorem rds_ret (h1 : DL.Rd K T S E te FE) : RdS K T S E (tRet te) (xsRet FE) := fun σ ρ Hb0 H0 n0 Hb H n DD XP D a sl h q x => h1 σ ρ Hb H n _ XP _ a.wd sl.sl h (q.rt.step a) (x.step a)
theorem rds_if {c : TT} {FT : DTT} (hc : RdT K T S E c FT) (h1 : RdS K T S E t F) (h2 : RdS K T S E u G) : RdS K T S E (tIfS c t u) (xsIf FT F G) := fun σ ρ Hb0 H0 n0 Hb H n DD XP D a sl h q x =>
  hc σ ρ Hb H n _ XP _ a.wd sl.sl h (fun b n1 Hb1 H1 s p => by
    cases b with
    | true => exact iteT (h1 σ ρ Hb0 H0 n0 Hb1 H1 n1 _ XP _ (a.trans s) (sl.step s) p (q.up s.ex) x)
    | false => exact iteF (h2 σ ρ Hb0 H0 n0 Hb1 H1 n1 _ XP _ (a.trans s) (sl.step s) p (q.up s.ex) x)) (x.step a)
/-- a, b = e1, e2 -/
def xsPar (i j : Nat) (G : DTA) : DTS := fun DD ρ n XP => G ρ n (fun ss n1 => match ss with | [.d a, .d b] => DD.nx ((ρ.set i (.d a)).set j (.d b)) n1 | _ => False) XP
theorem Args.one {ss : List SV} {vs : List V} {d : D} (h : Args K S Hb H n [.d d] vs) : ∃ v, vs = [v] ∧ Dn K Hb v d := by
  cases h with
  | cons h1 h2 =>
    cases h2
    obtain ⟨_, e, hv⟩ := h1
    cases e
    exact ⟨_, rfl, hv⟩
theorem Args.two {ss : List SV} {vs : List V} {d e : D} (h : Args K S Hb H n [.d d, .d e] vs) : ∃ v u, vs = [v, u] ∧ Dn K Hb v d ∧ Dn K Hb u e := by
  cases h with
  | cons h1 h2 =>
    obtain ⟨u, rfl, hu⟩ := Args.one (ss := []) h2
    obtain ⟨_, e, hv⟩ := h1
    cases e
    exact ⟨_, _, rfl, hv, hu⟩
theorem rds_par {i j : Nat} {ta : TA} {GA : DTA} (h1 : RdA K T S E ta GA) : RdS K T S E (tPar i j ta) (xsPar i j GA) := fun σ ρ Hb0 H0 n0 Hb H n DD XP D a sl h q x =>
  h1 σ ρ Hb H n _ XP _ a.wd sl.sl h (fun ss vs n1 Hb1 H1 s ha p => by
    match ss, ha, p with
    | [.d d1, .d d2], ha, p =>
      obtain ⟨v, u, rfl, hv, hu⟩ := Args.two (ss := []) ha
      exact ⟨v, u, rfl, q.nx _ _ n1 Hb1 H1 s.ex (a.trans s) (((sl.step s).set hv).set hu) p⟩) (x.step a)
/-- raise C('..') -/
def xsRaise (C : Addr) : DTS := fun _ _ n XP => XP C [] [] n
theorem rds_raise {C : Addr} : RdS K T S E (fun _ σ H => E (.ref C) none H) (xsRaise C) := fun σ ρ Hb0 H0 n0 Hb H n DD XP D a sl h q x =>
  x C [] [] n none Hb H a ⟨[], .inl ⟨rfl, rfl⟩, rfl, .nil⟩ h
/-! ### targets -/
abbrev DTG := D → List SV → (List SV → Prop) → Prop
def RdG (K : PySem.W.Frag) (T : Tb) (S : SA) (vs : List Nat) (g : TG) (G : DTG) : Prop :=
  ∀ v d σ ρ H0 Hb H n P Q, World T S Hb H → Sl0 K S H0 Hb H n ρ σ → Dn K Hb v d → G d ρ P → (∀ ρ' σ', Sl0 K S H0 Hb H n ρ' σ' → wipe σ' vs = wipe σ vs → P ρ' → Q σ' H) → g v σ H Q
theorem wipe_set {σ : L2.St} {i : Nat} {o : Option V} : ∀ {vs : List Nat}, i ∈ vs → wipe (σ.set i o) vs = wipe σ vs
  | v :: vs, h => by
    unfold wipe
    by_cases hv : i ∈ vs
    · rw [wipe_set hv]
    · have e : i = v := by
        rcases List.mem_cons.mp h with e | e
        · exact e
        · exact absurd e hv
      subst e
      have z : ∀ {ws : List Nat}, i ∉ ws → (wipe (σ.set i o) ws) = (wipe σ ws).set i o := by
        intro ws
        induction ws with
        | nil => intro _; rfl
        | cons w ws ih =>
          intro hw
          have h1 : i ≠ w := fun e => hw (by rw [e]; exact List.mem_cons_self)
          have h2 : i ∉ ws := fun m => hw (List.mem_cons_of_mem _ m)
          unfold wipe
          rw [ih h2, List.set_comm _ _ h1]
      rw [z hv, List.set_set]
def xgName (i : Nat) : DTG := fun d ρ P => P (ρ.set i (.d d))
theorem rdg_name {i : Nat} {vs : List Nat} (h : i ∈ vs) : RdG K T S vs (gName i) (xgName i) := fun v d σ ρ H0 Hb H n P Q w sl hd p q => q _ _ (sl.set hd) (wipe_set h) p
def xgTwo (i j : Nat) : DTG := fun d ρ P => match d with
  | .tup [a, b] => P ((ρ.set i (.d a)).set j (.d b))
  | _ => False
theorem rdg_two {i j : Nat} {vs : List Nat} (h : i ∈ vs) (h' : j ∈ vs) : RdG K T S vs (gTup K 2 (gCons (gName i) (gCons (gName j) gNil))) (xgTwo i j) := fun v d σ ρ H0 Hb H n P Q w sl hd p q => by
  cases hd with
  | @tup a xs ds h1 h2 =>
    cases h2 with
    | nil => exact p.elim
    | @cons v1 vs1 d1 ds1 g1 g2 =>
      cases g2 with
      | nil => exact p.elim
      | @cons v2 vs2 d2 ds2 g3 g4 =>
        cases g4 with
        | cons _ _ => exact p.elim
        | nil => exact ⟨a, [v1, v2], rfl, ex_t w.ex h1, rfl, v1, [v2], rfl, v2, [], rfl, rfl, q _ _ ((sl.set g1).set g3) (by rw [wipe_set h', wipe_set h]) p⟩
  | _ => exact p.elim

/-! ### what is walked -/
/-- J gives the items ds, one by one; an item may be a new object -/
def SrcOk (K : PySem.W.Frag) (J : It) (Hb0 : Hp) (ds : List D) : Prop :=
  ∀ Hb H (i : Nat), Ex Hb0 Hb → Ex Hb H → (ds.length ≤ i → J.stop i H) ∧ ∀ d, ds[i]? = some d → J.go i H ∧ ∀ x H', J.yld i H x H' →
    (H' = H ∧ Dn K Hb x d) ∨ ∃ p o, H p = none ∧ H' = upd H p o ∧ (∀ ps, o ≠ .tbl ps) ∧ Dn K (upd Hb p o) x d
abbrev DTI := List SV → Nat → (List D → Nat → Prop) → DX → Prop
def RdI (K : PySem.W.Frag) (T : Tb) (S : SA) (E : XK) (wi : TI) (F : DTI) : Prop :=
  ∀ σ ρ Hb H n P XP R, World T S Hb H → Slots K S Hb H n ρ σ → F ρ n P XP → (∀ ds n' Hb' H' J, Stp K T S Hb H n Hb' H' n' → SrcOk K J Hb' ds → P ds n' → R J H') → XOk K T S Hb H n XP E → wi σ H R
theorem src_list {a : Addr} {xs : List V} {ds : List D} (h : SqL K Hb a xs) (hd : DnA K Hb xs ds) : SrcOk K (Itl K a) Hb ds := fun Hb1 H1 i e1 e2 => by
  have h1 := ex_l e2 (ex_l e1 h)
  refine ⟨fun hi => ⟨xs, h1, by rw [hd.len]; exact hi⟩, fun d e => ?_⟩
  obtain ⟨v, ev, hv⟩ := hd.get e
  refine ⟨⟨xs, v, h1, ev⟩, fun x H' y => .inl ⟨y.1, ?_⟩⟩
  have z := y.2 xs h1
  rw [ev] at z
  cases z
  exact hv.up e1
theorem src_tup {a : Addr} {xs : List V} {ds : List D} (h : SqT K Hb a xs) (hd : DnA K Hb xs ds) : SrcOk K (Itt K a) Hb ds := fun Hb1 H1 i e1 e2 => by
  have h1 := ex_t e2 (ex_t e1 h)
  refine ⟨fun hi => ⟨xs, h1, by rw [hd.len]; exact hi⟩, fun d e => ?_⟩
  obtain ⟨v, ev, hv⟩ := hd.get e
  refine ⟨⟨xs, v, h1, ev⟩, fun x H' y => .inl ⟨y.1, ?_⟩⟩
  have z := y.2 xs h1
  rw [ev] at z
  cases z
  exact hv.up e1
def rangeD (lo : Int) (m : Nat) : List D := (List.range m).map fun (i : Nat) => D.int (lo + (i : Int))
theorem src_range {lo : Int} {m : Nat} : SrcOk K (Itr lo m) Hb (rangeD lo m) := fun Hb1 H1 i e1 e2 => by
  refine ⟨fun hi => (by unfold rangeD at hi; simpa using hi : m ≤ i), fun d e => ?_⟩
  have hi : i < m := by
    have := (List.getElem?_eq_some_iff.mp e).1
    unfold rangeD at this
    simpa using this
  refine ⟨hi, fun x H' y => .inl ⟨y.1, ?_⟩⟩
  unfold rangeD at e
  rw [List.getElem?_map, List.getElem?_range hi] at e
  cases e
  rw [y.2]
  exact .int _
def seqD : D → (List D → Prop) → Prop
  | .lst xs, k => k xs
  | .tup xs, k => k xs
  | _, _ => False
theorem rdi_list (h1 : DL.Rd K T S E te FE) : RdI K T S E (iList K te) (fun ρ n P XP => FE ρ n (fun d n1 => match d with | .lst xs => P xs n1 | _ => False) XP) := fun σ ρ Hb H n P XP R w sl h q x =>
  h1 σ ρ Hb H n _ XP _ w sl h (fun d v n1 Hb1 H1 s hd p => by
    cases hd with
    | @lst a xs ds g1 g2 => exact ⟨a, rfl, ⟨xs, ex_l s.wd.ex g1⟩, q ds n1 Hb1 H1 _ s (src_list g1 g2) p⟩
    | _ => exact p.elim) x
theorem rdi_tup (h1 : DL.Rd K T S E te FE) : RdI K T S E (iTup K te) (fun ρ n P XP => FE ρ n (fun d n1 => match d with | .tup xs => P xs n1 | _ => False) XP) := fun σ ρ Hb H n P XP R w sl h q x =>
  h1 σ ρ Hb H n _ XP _ w sl h (fun d v n1 Hb1 H1 s hd p => by
    cases hd with
    | @tup a xs ds g1 g2 => exact ⟨a, rfl, ⟨xs, ex_t s.wd.ex g1⟩, q ds n1 Hb1 H1 _ s (src_tup g1 g2) p⟩
    | _ => exact p.elim) x
def xiRange1 (G : DTA) : DTI := fun ρ n P XP => G ρ n (fun ss n1 => match ss with | [.d (.int j)] => j < 2 ^ 62 ∧ -(2 ^ 62) ≤ j ∧ P (rangeD 0 j.toNat) n1 | _ => False) XP
def xiRange2 (G : DTA) : DTI := fun ρ n P XP => G ρ n (fun ss n1 => match ss with | [.d (.int i), .d (.int j)] => (-(2 ^ 62) ≤ i ∧ i < 2 ^ 62 ∧ -(2 ^ 62) ≤ j ∧ j < 2 ^ 62) ∧ P (rangeD i (j - i).toNat) n1 | _ => False) XP
theorem rdi_range1 {ta : TA} {GA : DTA} (h1 : RdA K T S E ta GA) : RdI K T S E (iRng1 ta) (xiRange1 GA) := fun σ ρ Hb H n P XP R w sl h q x =>
  h1 σ ρ Hb H n _ XP _ w sl h (fun ss vs n1 Hb1 H1 s ha p => by
    match ss, ha, p with
    | [.d (.int j)], ha, p =>
      obtain ⟨v, rfl, hv⟩ := Args.one (ss := []) ha
      cases hv
      exact ⟨j, rfl, p.2.1, p.1, q _ n1 Hb1 H1 _ s src_range p.2.2⟩) x
theorem rdi_range2 {ta : TA} {GA : DTA} (h1 : RdA K T S E ta GA) : RdI K T S E (iRng2 ta) (xiRange2 GA) := fun σ ρ Hb H n P XP R w sl h q x =>
  h1 σ ρ Hb H n _ XP _ w sl h (fun ss vs n1 Hb1 H1 s ha p => by
    match ss, ha, p with
    | [.d (.int i), .d (.int j)], ha, p =>
      obtain ⟨v, u, rfl, hv, hu⟩ := Args.two (ss := []) ha
      cases hv
      cases hu
      exact ⟨i, j, rfl, p.1, q _ n1 Hb1 H1 _ s src_range p.2⟩) x
end
end DL

namespace DL
open L2 PySem PySem.Spec PyProof.Rows
open Evl (Ex ex_l ex_t sz_of)
section
variable {K : PySem.W.Frag} {T : Tb} {S : SA} {E : XK} {Hb H Hb1 H1 : Hp} {n n1 : Nat} {te : TE} {FE : DT}
/-! ### zip of two lists, of two tuples -/
def zipD (xs ys : List D) : List D := (xs.zip ys).map fun p => D.tup [p.1, p.2]
theorem zipD_get {xs ys : List D} {i : Nat} {d : D} (h : (zipD xs ys)[i]? = some d) : ∃ x y, xs[i]? = some x ∧ ys[i]? = some y ∧ d = .tup [x, y] := by
  unfold zipD at h
  rw [List.getElem?_map] at h
  cases e : (xs.zip ys)[i]? with
  | none => rw [e] at h; cases h
  | some p =>
    rw [e] at h
    cases h
    rw [List.getElem?_zip_eq_some] at e
    exact ⟨p.1, p.2, e.1, e.2, rfl⟩
theorem src_zipL {a b : Addr} {xs ys : List V} {ds es : List D} (h : SqL K Hb a xs) (hd : DnA K Hb xs ds) (g : SqL K Hb b ys) (gd : DnA K Hb ys es) : SrcOk K (Itz K a b) Hb (zipD ds es) := fun Hb1 H1 i e1 e2 => by
  have h1 := ex_l e2 (ex_l e1 h)
  have g1 := ex_l e2 (ex_l e1 g)
  refine ⟨fun hi => ⟨xs, ys, h1, g1, ?_⟩, fun d e => ?_⟩
  · unfold zipD at hi
    rw [List.length_map, List.length_zip] at hi
    rw [hd.len, gd.len]
    omega
  · obtain ⟨x, y, ex, ey, rfl⟩ := zipD_get e
    obtain ⟨v, ev, hv⟩ := hd.get ex
    obtain ⟨u, eu, hu⟩ := gd.get ey
    refine ⟨⟨xs, ys, v, u, h1, g1, ev, eu⟩, fun z H' q => ?_⟩
    obtain ⟨p, x', y', rfl, hp, rfl, f1, f2⟩ := q
    have z1 := f1 xs h1
    have z2 := f2 ys g1
    rw [ev] at z1
    rw [eu] at z2
    cases z1
    cases z2
    have ex := Ex.new (o := .tup [v, u]) (free_of e2 hp)
    exact .inr ⟨p, _, hp, rfl, (fun _ z => by cases z), .tup (SqT.of upd_same) (.cons ((hv.up e1).up ex) (.cons ((hu.up e1).up ex) .nil))⟩
theorem src_zipT {a b : Addr} {xs ys : List V} {ds es : List D} (h : SqT K Hb a xs) (hd : DnA K Hb xs ds) (g : SqT K Hb b ys) (gd : DnA K Hb ys es) : SrcOk K (RZ.ItzT K a b) Hb (zipD ds es) := fun Hb1 H1 i e1 e2 => by
  have h1 := ex_t e2 (ex_t e1 h)
  have g1 := ex_t e2 (ex_t e1 g)
  refine ⟨fun hi => ⟨xs, ys, h1, g1, ?_⟩, fun d e => ?_⟩
  · unfold zipD at hi
    rw [List.length_map, List.length_zip] at hi
    rw [hd.len, gd.len]
    omega
  · obtain ⟨x, y, ex, ey, rfl⟩ := zipD_get e
    obtain ⟨v, ev, hv⟩ := hd.get ex
    obtain ⟨u, eu, hu⟩ := gd.get ey
    refine ⟨⟨xs, ys, v, u, h1, g1, ev, eu⟩, fun z H' q => ?_⟩
    obtain ⟨p, x', y', rfl, hp, rfl, f1, f2⟩ := q
    have z1 := f1 xs h1
    have z2 := f2 ys g1
    rw [ev] at z1
    rw [eu] at z2
    cases z1
    cases z2
    have ex := Ex.new (o := .tup [v, u]) (free_of e2 hp)
    exact .inr ⟨p, _, hp, rfl, (fun _ z => by cases z), .tup (SqT.of upd_same) (.cons ((hv.up e1).up ex) (.cons ((hu.up e1).up ex) .nil))⟩
def xiZip (G : DTA) : DTI := fun ρ n P XP => G ρ n (fun ss n1 => match ss with
  | [.d (.lst xs), .d (.lst ys)] => P (zipD xs ys) n1
  | [.d (.tup xs), .d (.tup ys)] => P (zipD xs ys) n1
  | _ => False) XP
theorem rdi_zip {ta : TA} {GA : DTA} (h1 : RdA K T S E ta GA) : RdI K T S E (RZ.iZipA K ta) (xiZip GA) := fun σ ρ Hb H n P XP R w sl h q x =>
  h1 σ ρ Hb H n _ XP _ w sl h (fun ss vs n1 Hb1 H1 s ha p => by
    match ss, ha, p with
    | [.d (.lst xs), .d (.lst ys)], ha, p =>
      obtain ⟨v, u, rfl, hv, hu⟩ := Args.two (ss := []) ha
      cases hv with
      | @lst a as ds g1 g2 =>
        cases hu with
        | @lst b bs es g3 g4 => exact ⟨a, b, as, bs, rfl, .inl ⟨ex_l s.wd.ex g1, ex_l s.wd.ex g3, q _ n1 Hb1 H1 _ s (src_zipL g1 g2 g3 g4) p⟩⟩
    | [.d (.tup xs), .d (.tup ys)], ha, p =>
      obtain ⟨v, u, rfl, hv, hu⟩ := Args.two (ss := []) ha
      cases hv with
      | @tup a as ds g1 g2 =>
        cases hu with
        | @tup b bs es g3 g4 => exact ⟨a, b, as, bs, rfl, .inr ⟨ex_t s.wd.ex g1, ex_t s.wd.ex g3, q _ n1 Hb1 H1 _ s (src_zipT g1 g2 g3 g4) p⟩⟩) x

/-- an item's step -/
theorem item_step {x : V} {d : D} {H' : Hp} (w : World T S Hb H) (h : (H' = H ∧ Dn K Hb x d) ∨ ∃ p o, H p = none ∧ H' = upd H p o ∧ (∀ ps, o ≠ .tbl ps) ∧ Dn K (upd Hb p o) x d) : ∃ Hb', Stp K T S Hb H n Hb' H' n ∧ Dn K Hb' x d := by
  rcases h with ⟨rfl, h⟩ | ⟨p, o, hp, rfl, ho, h⟩
  · exact ⟨Hb, .refl w, h⟩
  · exact ⟨_, .new w hp ho, h⟩

/-! ### for -/
def xsFor (FI : DTI) (G : DTG) (B : DTS) : DTS := fun DD ρ n XP => FI ρ n (fun xs n1 => ∃ I : Nat → List SV → Nat → Prop, I 0 ρ n1 ∧
  (∀ i x ρ n, xs[i]? = some x → I i ρ n → G x ρ fun ρ2 => B { DD with nx := I (i + 1), ct := I (i + 1), bk := DD.nx } ρ2 n XP) ∧ ∀ ρ n, I xs.length ρ n → DD.nx ρ n) XP
theorem rds_for {wi : TI} {g : TG} {tb : TS} {FI : DTI} {G : DTG} {B : DTS} {vs : List Nat} (hi : RdI K T S E wi FI) (hg : RdG K T S vs g G) (hb : RdS K T S E tb B) : RdS K T S E (tFor wi g tb) (xsFor FI G B) := fun σ ρ Hb0 H0 n0 Hb H n DD XP D a sl h q x =>
  hi σ ρ Hb H n _ XP _ a.wd sl.sl h (fun xs n1 Hb1 H1 J s src p => by
    obtain ⟨I, i0, it, ie⟩ := p
    have b := a.trans s
    -- what is frozen at the loop's start stays
    refine ⟨fun i m σ2 H2 => m = xs.length - i ∧ i ≤ xs.length ∧ ∃ ρ2 n2 Hb2, Ex Hb1 Hb2 ∧ Stp K T S Hb0 H0 n0 Hb2 H2 n2 ∧ Sl0 K S H0 Hb2 H2 n2 ρ2 σ2 ∧ I i ρ2 n2, ⟨xs.length, rfl, Nat.zero_le _, ρ, n1, Hb1, Ex.refl _, b, sl.step s, i0⟩, ?_⟩
    rintro i m σ2 H2 ⟨rfl, hi2, ρ2, n2, Hb2, e2, s2, sl2, hI⟩
    obtain ⟨stop, go⟩ := src Hb2 H2 i e2 s2.wd.ex
    by_cases hlt : i < xs.length
    · have ex : xs[i]? = some xs[i] := List.getElem?_eq_getElem hlt
      obtain ⟨hgo, hy⟩ := go _ ex
      refine .inr ⟨hgo, fun σ' H' => ∃ ρ' n' Hb', Ex Hb1 Hb' ∧ Stp K T S Hb0 H0 n0 Hb' H' n' ∧ Sl0 K S H0 Hb' H' n' ρ' σ' ∧ I (i + 1) ρ' n', fun σ' H' hN => ⟨xs.length - (i + 1), by omega, rfl, hlt, hN⟩, fun v H' y => ?_⟩
      obtain ⟨Hb3, s3, hv⟩ := item_step (K := K) (n := n2) s2.wd (hy v H' y)
      refine hg v _ σ2 ρ2 H0 Hb3 H' n2 _ _ s3.wd (sl2.step s3) hv (it i _ ρ2 n2 ex hI) fun ρ3 σ3 sl3 _ hB => ?_
      have e3 := e2.trans s3.ex
      exact hb σ3 ρ3 Hb0 H0 n0 Hb3 H' n2 _ XP _ (s2.trans s3) sl3 hB ⟨fun ρ4 σ4 n4 Hb4 H4 e4 s4 sl4 p4 => ⟨ρ4, n4, Hb4, e3.trans e4, s4, sl4, p4⟩, q.rt, q.nx.up (s.ex.trans e3), fun ρ4 σ4 n4 Hb4 H4 e4 s4 sl4 p4 => ⟨ρ4, n4, Hb4, e3.trans e4, s4, sl4, p4⟩⟩ x
    · have e : i = xs.length := by omega
      subst e
      exact .inl ⟨stop (Nat.le_refl _), q.nx ρ2 σ2 n2 Hb2 H2 (s.ex.trans e2) s2 sl2 (ie ρ2 n2 hI)⟩) (x.step a)

/-! ### comprehensions -/
def compM (step : D → Nat → (Option D → Nat → Prop) → Prop) : List D → Nat → (List D → Nat → Prop) → Prop
  | [], n, P => P [] n
  | x :: xs, n, P => step x n fun o n' => compM step xs n' fun ds n'' => P (match o with | some d => d :: ds | none => ds) n''
def xtYes : DTT := fun _ n P _ => P true n
theorem rdt_yes {E : XK} : RdT K T S E tYes xtYes := fun σ ρ Hb H n P XP Q w sl h q x => q true n Hb H (.refl w) h
theorem wipe_wipe {σ : L2.St} {vs : List Nat} : wipe (wipe σ vs) vs = wipe σ vs := by
  have z : ∀ ws : List Nat, (∀ i ∈ ws, i ∈ vs) → wipe (wipe σ ws) vs = wipe σ vs := by
    intro ws
    induction ws with
    | nil => intro _; rfl
    | cons w ws ih =>
      intro h
      show wipe ((wipe σ ws).set w none) vs = wipe σ vs
      rw [wipe_set (h w List.mem_cons_self), ih fun i hi => h i (List.mem_cons_of_mem _ hi)]
  exact z vs fun _ h => h
/-- what gives a new list, not frozen yet -/
abbrev DTL := List SV → Nat → (List D → Nat → Prop) → DX → Prop
def RdN (K : PySem.W.Frag) (T : Tb) (S : SA) (E : XK) (te : TE) (F : DTL) : Prop :=
  ∀ σ ρ Hb H n P XP (Q : VK), World T S Hb H → Slots K S Hb H n ρ σ → F ρ n P XP →
    (∀ ds p vs n' Hb' H', Stp K T S Hb H n Hb' H' n' → Fresh H p → H' p = some (.lst vs) → Hb' p = none → DnA K Hb' vs ds → P ds n' → Q (.ref p) H') → XOk K T S Hb H n XP E → te σ H Q
def xnLc (FI : DTI) (G : DTG) (FT : DTT) (FE : DT) (vs : List Nat) : DTL := fun ρ n P XP => FI ρ n (fun xs n1 => xs.length ≤ 100000 ∧
  compM (fun x n2 k => G x (wipeS ρ vs) fun ρ2 => FT ρ2 n2 (fun b n3 => match b with | true => FE ρ2 n3 (fun d n4 => k (some d) n4) xF | false => k none n3) xF) xs n1 P) XP
/-- J gives the items while steps of ours are made -/
def SrcJ (K : PySem.W.Frag) (T : Tb) (S : SA) (J : It) (Hb0 H0 : Hp) (n0 : Nat) (ds : List D) : Prop :=
  ∀ Hb H n (i : Nat), Stp K T S Hb0 H0 n0 Hb H n → (ds.length ≤ i → J.stop i H) ∧ ∀ d, ds[i]? = some d → J.go i H ∧ ∀ x H', J.yld i H x H' →
    (H' = H ∧ Dn K Hb x d) ∨ ∃ p o, H p = none ∧ H' = upd H p o ∧ (∀ ps, o ≠ .tbl ps) ∧ Dn K (upd Hb p o) x d
def RdJ (K : PySem.W.Frag) (T : Tb) (S : SA) (E : XK) (wi : TI) (F : DTI) : Prop :=
  ∀ σ ρ Hb H n P XP R, World T S Hb H → Slots K S Hb H n ρ σ → F ρ n P XP → (∀ ds n' Hb' H' J, Stp K T S Hb H n Hb' H' n' → SrcJ K T S J Hb' H' n' ds → P ds n' → R J H') → XOk K T S Hb H n XP E → wi σ H R
theorem rdj_of {wi : TI} {F : DTI} (h : RdI K T S E wi F) : RdJ K T S E wi F := fun σ ρ Hb H n P XP R w sl hf q x =>
  h σ ρ Hb H n P XP R w sl hf (fun ds n' Hb' H' J s src p => q ds n' Hb' H' J s (fun Hb2 H2 n2 i s2 => src Hb2 H2 i s2.ex s2.wd.ex) p) x
/-- over a list of one's own -/
def xjOwn (i : Nat) : DTI := fun ρ n P _ => match ρ[i]? with
  | some (.ol xs) => P xs n
  | _ => False
theorem rdj_own {i : Nat} : RdJ K T S E (iList K (tVar i)) (xjOwn i) := fun σ ρ Hb H n P XP R w sl h q x => by
  unfold xjOwn at h
  split at h
  · rename_i xs e
    obtain ⟨o, e1, p, vs, e2, e3, e4, e5, e6, _, e7⟩ := sl.ok i _ e
    refine ⟨.ref p, by rw [e1, e2], p, rfl, ⟨vs, SqL.of e3⟩, q xs n Hb H _ (.refl w) (fun Hb2 H2 n2 j s2 => ?_) h⟩
    obtain ⟨g1, g2⟩ := s2.own p _ e3 e4 e5 e6 (fun ps z => by cases z)
    have h7 := e7.up s2.ex
    refine ⟨fun hj => ⟨vs, SqL.of g1, by rw [h7.len]; exact hj⟩, fun d ed => ?_⟩
    obtain ⟨v, ev, hv⟩ := h7.get ed
    refine ⟨⟨vs, v, SqL.of g1, ev⟩, fun y H' yy => .inl ⟨yy.1, ?_⟩⟩
    have z := yy.2 vs (SqL.of g1)
    rw [ev] at z
    cases z
    exact hv
  · exact h.elim
theorem rdn_lc {wi : TI} {g : TG} {tt : TT} {FI : DTI} {G : DTG} {FT : DTT} {vs : List Nat} (hi : RdJ K T S E wi FI) (hg : RdG K T S vs g G) (ht : RdT K T S E0 tt FT) (he : DL.Rd K T S E0 te FE) : RdN K T S E (tLc wi g tt te vs) (xnLc FI G FT FE vs) := fun σ ρ Hb H n P XP Q w sl h q x =>
  hi σ ρ Hb H n _ XP _ w sl h (fun xs n1 Hb1 H1 J s src p => by
    obtain ⟨hlen, p⟩ := p
    intro L hL
    have nSa : L ≠ S.a := s.wd.sa.ne (fresh_none hL)
    have nSl : L ≠ S.l := s.wd.sl.ne (fresh_none hL)
    have nSc : L ≠ S.c := s.wd.sc.ne (fresh_none hL)
    refine ⟨fun i m H2 => m = xs.length - i ∧ i ≤ xs.length ∧ ∃ n2 Hb2 accV acc, Stp K T S Hb1 H1 n1 Hb2 H2 n2 ∧ H2 L = some (.lst accV) ∧ Hb2 L = none ∧ DnA K Hb2 accV acc ∧ acc.length ≤ i ∧
      compM (fun x n2 k => G x (wipeS ρ vs) fun ρ2 => FT ρ2 n2 (fun b n3 => match b with | true => FE ρ2 n3 (fun d n4 => k (some d) n4) xF | false => k none n3) xF) (xs.drop i) n2 fun ds n5 => P (acc ++ ds) n5,
      ⟨xs.length, rfl, Nat.zero_le _, n1, Hb1, [], [], .newO s.wd hL, upd_same, free_of s.wd.ex hL, .nil, Nat.le_refl _, p⟩, ?_⟩
    rintro i m H2 ⟨rfl, hi2, n2, Hb2, accV, acc, s2, eL, fL, hacc, la, hc⟩
    obtain ⟨stop, go⟩ := src Hb2 H2 n2 i s2
    by_cases hlt : i < xs.length
    · have ex : xs[i]? = some xs[i] := List.getElem?_eq_getElem hlt
      obtain ⟨hgo, hy⟩ := go _ ex
      have ed : xs.drop i = xs[i] :: xs.drop (i + 1) := List.drop_eq_getElem_cons hlt
      rw [ed] at hc
      refine .inr ⟨hgo, fun H' => ∃ n' Hb' accV acc, Stp K T S Hb1 H1 n1 Hb' H' n' ∧ H' L = some (.lst accV) ∧ Hb' L = none ∧ DnA K Hb' accV acc ∧ acc.length ≤ i + 1 ∧
        compM (fun x n2 k => G x (wipeS ρ vs) fun ρ2 => FT ρ2 n2 (fun b n3 => match b with | true => FE ρ2 n3 (fun d n4 => k (some d) n4) xF | false => k none n3) xF) (xs.drop (i + 1)) n' fun ds n5 => P (acc ++ ds) n5,
        fun H' hN => ⟨xs.length - (i + 1), by omega, rfl, hlt, hN⟩, fun v H' y => ?_⟩
      obtain ⟨Hb3, s3, hv⟩ := item_step (n := n2) s2.wd (hy v H' y)
      have st3 := s2.trans s3
      have sl3 : Sl0 K S (fun _ => none) Hb3 H' n2 (wipeS ρ vs) (wipe σ vs) := ⟨((sl.step s).step st3).wiped vs, fun _ _ _ _ _ _ => fresh_none rfl⟩
      have ne : ∀ ps, HO.lst accV ≠ .tbl ps := fun ps z => by cases z
      refine hg v _ (wipe σ vs) (wipeS ρ vs) _ Hb3 H' n2 _ _ s3.wd sl3 hv hc fun ρ4 σ4 sl4 hw hT => ⟨hw.trans wipe_wipe, ?_⟩
      obtain ⟨eL3, fL3⟩ := s3.own L _ eL fL nSa nSl ne
      refine ht σ4 ρ4 Hb3 H' n2 _ xF _ s3.wd sl4.sl hT (fun b n4 Hb4 H4 s4 p4 => ?_) XOk.none
      obtain ⟨eL4, fL4⟩ := s4.own L _ eL3 fL3 nSa nSl ne
      have hacc4 := (hacc.up s3.ex).up s4.ex
      cases b with
      | false => exact iteF ⟨n4, Hb4, accV, acc, st3.trans s4, eL4, fL4, hacc4, Nat.le_succ_of_le la, p4⟩
      | true =>
        refine iteT ?_
        refine he σ4 ρ4 Hb4 H4 n4 _ xF _ s4.wd (sl4.sl.step s4) p4 (fun d u n5 Hb5 H5 s5 hu p5 => ?_) XOk.none
        obtain ⟨eL5, fL5⟩ := s5.own L _ eL4 fL4 nSa nSl ne
        have hacc5 := hacc4.up s5.ex
        have w5 := s5.wd
        have st5 := (st3.trans s4).trans s5
        have nT : ∀ q ∈ T, q.1 ≠ L := fun q hq z => by
          obtain ⟨ps, e, _⟩ := w5.tabs q hq
          rw [z, eL5] at e
          cases e
        refine ⟨accV, eL5, ?_, n5, Hb5, accV ++ [u], acc ++ [d], ?_, upd_same, fL5, hacc5.app (.one hu), by simp; omega, ?_⟩
        · rw [hacc5.len]
          exact Nat.lt_of_le_of_lt la (Nat.lt_of_lt_of_le hlt (sz_of hlen))
        · -- the list has grown
          refine ⟨st5.ex, ⟨fun b o e => ?_, fun q hq => ?_, w5.tb, ?_, ?_, ?_, w5.nt⟩, fun h0 => ?_, fun b o e1 e2 e3 e4 e5 => ?_, fun b e => st5.dm b (dm_upd (fun _ z => by cases z) b e)⟩
          · rw [upd_ne (fun z => by rw [z, fL5] at e; cases e)]
            exact w5.ex b o e
          · obtain ⟨ps, e, t1, t2⟩ := w5.tabs q hq
            refine ⟨ps, by rw [upd_ne (nT q hq)]; exact e, t1, fun pos cv hcv => ?_⟩
            obtain ⟨c, e1, e2⟩ := t2 pos cv hcv
            refine ⟨c, e1, ?_⟩
            rw [upd_ne (fun z => by rw [z, eL5] at e2; unfold LamX.CodeO at e2; cases e2)]
            exact e2
          · exact w5.sa.upd fun _ z => by cases z
          · exact w5.sl.upd fun _ z => by cases z
          · exact w5.sc.upd fun _ z => by cases z
          · obtain ⟨g1, g2, ls, cs, mm, t, g3, g4, g5, g6, g7, g8, rest⟩ := st5.st h0
            exact ⟨g1, g2, ls, cs, mm, t, g3, g4, g5, by rw [upd_ne nSa.symm]; exact g6, by rw [upd_ne nSl.symm]; exact g7, g8, rest⟩
          · have hb : b ≠ L := ne_of_none e1 hL
            rw [upd_ne hb]
            exact st5.own b o e1 e2 e3 e4 e5
        · have e6 : ∀ ds, (acc ++ [d]) ++ ds = acc ++ (d :: ds) := fun ds => by simp
          simp only [e6]
          exact p5
    · have e : i = xs.length := by omega
      subst e
      refine .inl ⟨stop (Nat.le_refl _), ?_⟩
      rw [List.drop_length] at hc
      have hc : P (acc ++ []) n2 := hc
      rw [List.append_nil] at hc
      exact q acc L accV n2 Hb2 H2 (s.trans s2) (s.dm L (fresh_none hL)) eL fL hacc hc) x

/-- an object of one's own is written, then frozen -/
theorem Stp.freeze {p : Addr} {o : HO} (s : Stp K T S Hb H n Hb1 H1 n1) (hp : Fresh H p) (fp : Hb1 p = none) (hx : H1 p ≠ none) (nt : ∀ ps, H1 p ≠ some (.tbl ps)) (nc : ∀ c q, H1 p ≠ some (LamX.CodeO c q)) (na : p ≠ S.a) (nl : p ≠ S.l) (nc2 : p ≠ S.c) (ho : ∀ ps, o ≠ .tbl ps := by intro _ z; cases z) : Stp K T S Hb H n (upd Hb1 p o) (upd H1 p o) n1 := by
  have w := s.wd
  refine ⟨s.ex.trans (Ex.new fp), ⟨fun b u e => ?_, fun q hq => ?_, fun q hq => ?_, ?_, ?_, ?_, nt_upd w.nt ho⟩, fun h0 => ?_, fun b u e1 e2 e3 e4 e5 => ?_, fun b e => s.dm b (dm_upd ho b e)⟩
  · by_cases hb : b = p
    · rw [hb, upd_same] at e ⊢
      exact e
    · rw [upd_ne hb] at e ⊢
      exact w.ex b u e
  · obtain ⟨ps, e, t1, t2⟩ := w.tabs q hq
    refine ⟨ps, by rw [upd_ne (fun z => nt ps (by rw [← z]; exact e))]; exact e, t1, fun pos cv hcv => ?_⟩
    obtain ⟨c, e1, e2⟩ := t2 pos cv hcv
    exact ⟨c, e1, by rw [upd_ne (fun z => nc c q.2 (by rw [← z]; exact e2))]; exact e2⟩
  · obtain ⟨ps, e, _⟩ := w.tabs q hq
    rw [upd_ne (fun z => nt ps (by rw [← z]; exact e))]
    exact w.tb q hq
  · exact w.sa.upd ho
  · exact w.sl.upd ho
  · exact w.sc.upd ho
  · obtain ⟨g1, g2, ls, cs, m, t, g3, g4, g5, g6, g7, g8, rest⟩ := s.st h0
    exact ⟨by rw [upd_ne na.symm]; exact g1, by rw [upd_ne nl.symm]; exact g2, ls, cs, m, t, g3, g4, g5, by rw [upd_ne na.symm]; exact g6, by rw [upd_ne nl.symm]; exact g7, by rw [upd_ne nc2.symm]; exact g8, rest⟩
  · have hb : b ≠ p := hp.ne e1 e5
    rw [upd_ne hb, upd_ne hb]
    exact s.own b u e1 e2 e3 e4 e5
theorem World.nS (w : World T S Hb H) {p : Addr} (hp : Fresh H p) : p ≠ S.a ∧ p ≠ S.l ∧ p ≠ S.c := ⟨w.sa.ne hp, w.sl.ne hp, w.sc.ne hp⟩
theorem codeO_no {c : Addr} {q : Str} {o : HO} (h : ∀ φ, o ≠ .ext φ) : o ≠ LamX.CodeO c q := fun z => by
  unfold LamX.CodeO at z
  exact h _ z
theorem rd_of_new {F : DTL} (h : RdN K T S E te F) : DL.Rd K T S E te (fun ρ n P XP => F ρ n (fun ds n1 => P (.lst ds) n1) XP) := fun σ ρ Hb H n P XP Q w sl hf q x =>
  h σ ρ Hb H n _ XP Q w sl hf (fun ds p vs n' Hb' H' s hp e1 e2 hd pp => by
    obtain ⟨n1, n2, n3⟩ := w.nS hp
    have z := s.freeze (o := .lst vs) hp e2 (by rw [e1]; exact fun z => by cases z) (fun ps z => by rw [e1] at z; cases z) (fun c u z => by rw [e1] at z; exact codeO_no (o := .lst vs) (fun _ z => by cases z) (Option.some.inj z)) n1 n2 n3
    have e : upd H' p (.lst vs) = H' := by
      funext b
      by_cases hb : b = p
      · rw [hb, upd_same, e1]
      · rw [upd_ne hb]
    rw [e] at z
    exact q _ _ n' _ _ z (.lst (SqL.of upd_same) (hd.up (Ex.new e2))) pp) x
def xLc (FI : DTI) (G : DTG) (FT : DTT) (FE : DT) (vs : List Nat) : DT := fun ρ n P XP => xnLc FI G FT FE vs ρ n (fun ds n1 => P (.lst ds) n1) XP
theorem rd_lc {wi : TI} {g : TG} {tt : TT} {FI : DTI} {G : DTG} {FT : DTT} {vs : List Nat} (hi : RdJ K T S E wi FI) (hg : RdG K T S vs g G) (ht : RdT K T S E0 tt FT) (he : DL.Rd K T S E0 te FE) : DL.Rd K T S E (tLc wi g tt te vs) (xLc FI G FT FE vs) := rd_of_new (rdn_lc hi hg ht he)
/-- y = [..], a list of one's own -/
def xsSetO (i : Nat) (F : DTL) : DTS := fun DD ρ n XP => F ρ n (fun ds n1 => DD.nx (ρ.set i (.ol ds)) n1) XP
end
end DL

namespace DL
open L2 PySem PySem.Spec PyProof.Rows
open Evl (Ex ex_l ex_t sz_of)
section
variable {K : PySem.W.Frag} {T : Tb} {S : SA} {E : XK} {Hb H Hb1 H1 : Hp} {n n1 : Nat} {te : TE} {FE : DT} {X : Cx}
/-! ### e.f -/
def fldD : List Str → List D → Str → Option D
  | k :: ks, d :: ds, f => if k = f then some d else fldD ks ds f
  | _, _, _ => none
theorem fld_of : ∀ {fs : List (Str × V)} {ns : List Str} {ds : List D} {f : Str} {d : D}, fs.map (·.1) = ns → DnA K H (fs.map (·.2)) ds → fldD ns ds f = some d → ∃ v, fs.lookup f = some v ∧ Dn K H v d
  | [], _, ds, f, d, e, h, g => by
    subst e
    unfold fldD at g
    simp at g
  | (k, v) :: fs, _, ds, f, d, e, h, g => by
    subst e
    cases h with
    | @cons _ _ d0 ds0 h1 h2 =>
      have g : (if k = f then some d0 else fldD (fs.map (·.1)) ds0 f) = some d := g
      by_cases hk : k = f
      · rw [if_pos hk] at g
        cases g
        subst hk
        exact ⟨v, by simp, h1⟩
      · rw [if_neg hk] at g
        obtain ⟨v', e2, h3⟩ := fld_of (ns := fs.map (·.1)) rfl h2 g
        refine ⟨v', ?_, h3⟩
        have hk' : (f == k) = false := by simpa using Ne.symm hk
        rw [List.lookup_cons, hk']
        exact e2
def xFld (K : PySem.W.Frag) (f : Str) (F : DT) : DT := fun ρ n P XP => F ρ n (fun d n1 => match d with
  | .ins C ns ds => NoAttr K C f ∧ ∃ x, fldD ns ds f = some x ∧ P x n1
  | _ => False) XP
theorem rd_fld {f : Str} (h1 : DL.Rd K T S E te FE) : DL.Rd K T S E (tFld K te f) (xFld K f FE) := fun σ ρ Hb H n P XP Q w sl h q x =>
  h1 σ ρ Hb H n _ XP _ w sl h (fun d v n1 Hb1 H1 s hd p => by
    cases hd with
    | @ins a C dx fs ns ds hc g1 g2 g3 =>
      obtain ⟨hn, y, e, p⟩ := p
      obtain ⟨v, e2, hv⟩ := fld_of g2 g3 e
      exact ⟨a, C, dx, fs, v, rfl, s.wd.ex _ _ g1, hc.cl, hn, e2, q _ _ n1 Hb1 H1 s hv p⟩
    | _ => exact p.elim) x
/-! ### isinstance -/
def tyD : D → Value
  | .non => .type "NoneType"
  | .bl _ => .type "bool"
  | .int _ => .type "int"
  | .str _ => .type "str"
  | .lst _ => .type "list"
  | .tup _ => .type "tuple"
  | .dic _ _ => .type "dict"
  | .ins C _ _ => .ref C
  | .exc C _ _ => .ref C
  | .fnv _ => .none
  | .dit _ _ => .none
def rIsD (K : PySem.W.Frag) : List V → Hp → VK → Prop := fun xs H Q => rIsi K xs H Q ∨
  ∃ (a C : Addr) (od : Option Addr) (c : V) (u : Value) (b : Bool), xs = [.ref a, c] ∧ ClsV c u ∧ H a = some (ExT C od a) ∧ (∀ dd, od = some dd → ∃ o, H dd = some o) ∧ ExcC K C ∧ PySem.W.kitOne K (.ref C) u = some b ∧ Q (.bl b) H
theorem call_isD : CallR X (.builtin "isinstance") (rIsD X.K) := by
  refine CallR.or call_isi ?_
  intro pins s σ H xs us Q I r h
  obtain ⟨a, C, od, c, u, b, rfl, k, ha, hod, hc, e, q⟩ := h
  obtain ⟨u1, u2, rfl, r1, r2⟩ := vals2 r
  have e2 := k.eq r2
  subst e2
  cases r1
  obtain ⟨⟨oe, vs, h1, ⟨h2, h3⟩, h4⟩, _, _⟩ := I.hok a _ ha
  have hcl : (PySem.W.clsIn X.K C).isSome = true := by
    have z := hc.hd
    unfold PySem.W.hasDictIn at z
    cases q : PySem.W.clsIn X.K C with
    | none => rw [q] at z; cases z
    | some _ => rfl
  have J : ∃ oo, PySem.W.InstAt s.heap a oe C oo := by
    obtain ⟨oc, odd, oda, osl⟩ := oe
    dsimp only at h2 h3 h4
    subst h2 h3 h4
    cases odd with
    | none => exact ⟨none, h1, rfl, rfl, trivial⟩
    | some dd =>
      obtain ⟨o, ho⟩ := hod dd rfl
      obtain ⟨oo, hoo⟩ := objOk_get (I.hok dd o ho)
      exact ⟨some oo, h1, rfl, rfl, hoo⟩
  obtain ⟨oo, J⟩ := J
  exact PySem.W.kia_one (PySem.W.kitx_exc hcl hc.hg hc.hk hc.hs hc.ha hc.hn hc.ht hc.hm) I.kIn J e (fun z => nomatch z) fun tk => ⟨.bl b, H, I.kept (t' := tk) fun _ _ z => z, rfl, q⟩
theorem TyX.of {v : V} {d : D} (h : Dn K H v d) (he : ∀ C ns ds, d ≠ .exc C ns ds) (hf : ∀ f, d ≠ .fnv f) (hg : ∀ ks ds, d ≠ .dit ks ds) : TyX K H v (tyD d) := by
  cases h with
  | non => exact .base .non
  | bl b => exact .base (.bl b)
  | int i => exact .base (.int i)
  | str i => exact .base (.str i)
  | lst h1 h2 =>
    rcases h1 with (h1 | ⟨o, h1⟩) | ⟨o, its, m, h1, h3, _⟩
    · exact .base (.lst h1)
    · exact .base (.frz h1)
    · exact .kList h1 h3
  | tup h1 h2 =>
    rcases h1 with (h1 | ⟨o, h1⟩) | ⟨o, its, m, h1, h3, _⟩
    · exact .base (.tup h1)
    · exact .fTuple h1
    · exact .kTuple h1 h3
  | dic h1 h2 h3 => exact .base (.dK h1)
  | ins hc h1 h2 h3 => exact .base (.ins h1 hc.cl hc.ha hc.hn hc.ht hc.hm)
  | exc hc ht h1 h2 h3 h4 => exact (he _ _ _ rfl).elim
  | fnv f => exact (hf _ rfl).elim
  | dit _ _ _ => exact (hg _ _ rfl).elim
/-- an exception without fields, for isinstance -/
def bareD : D → Prop
  | .fnv _ => False
  | .dit _ _ => False
  | _ => True
def xIs (K : PySem.W.Frag) (c : Value) (F : DT) : DT := fun ρ n P XP => F ρ n (fun d n1 => bareD d ∧ ∃ b, PySem.W.kitOne K (tyD d) c = some b ∧ P (.bl b) n1) XP
theorem rd_is {cv : V} {cu : Value} (hc : ClsV cv cu) (h1 : DL.Rd K T S E te FE) : DL.Rd K T S E (tCB (rIsD K) (tCons te (tCons (tC cv) tNil))) (xIs K cu FE) := fun σ ρ Hb H n P XP Q w sl h q x =>
  h1 σ ρ Hb H n _ XP _ w sl h (fun d v n1 Hb1 H1 s hd p => by
    obtain ⟨hb, b, e, p⟩ := p
    have fin : Q (.bl b) H1 := q _ _ n1 Hb1 H1 s (.bl b) p
    have hd1 := s.wd.dn hd
    show rIsD K [v, cv] H1 Q
    cases d with
    | exc C ns ds =>
      cases hd1 with
      | @exc a C od fs ns ds hC hT g1 g0 g2 g3 =>
        refine .inr ⟨a, C, od, cv, cu, b, rfl, hc, g1, fun dd ed => ?_, hC, e, fin⟩
        rcases g0 with g0 | ⟨d2, g0, hne, g4⟩
        · rw [g0.1] at ed
          cases ed
        · rw [g0] at ed
          cases ed
          exact ⟨_, g4⟩
    | fnv f => exact hb.elim
    | dit _ _ => exact hb.elim
    | _ => exact .inl ⟨v, cv, _, cu, b, rfl, hc, TyX.of hd1 (fun _ _ _ z => by cases z) (fun _ z => by cases z) (fun _ _ z => by cases z), e, fin⟩) x

/-- isinstance of a built-in class -/
def isTy (t : String) : D → Bool
  | .int _ => t == "int"
  | .bl _ => t == "bool" || t == "int"
  | .str _ => t == "str"
  | .tup _ => t == "tuple"
  | .lst _ => t == "list"
  | .dic _ _ => t == "dict"
  | _ => false
theorem kit_isTy {t : String} (ht : t ∈ ["int", "bool", "str", "tuple", "list", "dict"]) {v : V} {d : D} (h : Dn K H v d) (hb : bareD d) : PySem.W.kitOne K (tyD d) (.type t) = some (isTy t d) := by
  have B : ∀ (a : String), kitB a t = some (if a = "NoneType" then false else if a = "bool" then (t == "bool" || t == "int") else t == a) → PySem.W.kitOne K (.type a) (.type t) = some (if a = "NoneType" then false else if a = "bool" then (t == "bool" || t == "int") else t == a) := fun a e => kit_ty e
  have hB : ∀ a ∈ ["NoneType", "int", "bool", "str", "tuple", "list", "dict"], ∀ t ∈ ["int", "bool", "str", "tuple", "list", "dict"], kitB a t = some (if a = "NoneType" then false else if a = "bool" then (t == "bool" || t == "int") else t == a) := by decide +kernel
  cases h with
  | non => exact B _ (hB "NoneType" (by decide) t ht)
  | bl b => exact B _ (hB "bool" (by decide) t ht)
  | int b => exact B _ (hB "int" (by decide) t ht)
  | str b => exact B _ (hB "str" (by decide) t ht)
  | lst _ _ => exact B _ (hB "list" (by decide) t ht)
  | tup _ _ => exact B _ (hB "tuple" (by decide) t ht)
  | dic _ _ _ => exact B _ (hB "dict" (by decide) t ht)
  | ins hc _ _ _ => exact hc.nt t ht
  | exc hc hn _ _ _ _ => exact hn t ht
  | fnv f => exact hb.elim
  | dit _ _ _ => exact hb.elim
def xIsT (t : String) (F : DT) : DT := fun ρ n P XP => F ρ n (fun d n1 => bareD d ∧ P (.bl (isTy t d)) n1) XP
theorem is_end {cv : V} {cu : Value} {b : Bool} {v : V} {d : D} {Q : VK} (hc : ClsV cv cu) (hd : Dn K H v d) (hb : bareD d) (e : PySem.W.kitOne K (tyD d) cu = some b) (fin : Q (.bl b) H) : rIsD K [v, cv] H Q := by
  cases d with
  | exc C ns ds =>
    cases hd with
    | @exc a C od fs ns ds hC hT g1 g0 g2 g3 =>
      refine .inr ⟨a, C, od, cv, cu, b, rfl, hc, g1, fun dd ed => ?_, hC, e, fin⟩
      rcases g0 with g0 | ⟨d2, g0, hne, g4⟩
      · rw [g0.1] at ed
        cases ed
      · rw [g0] at ed
        cases ed
        exact ⟨_, g4⟩
  | fnv f => exact hb.elim
  | dit _ _ => exact hb.elim
  | _ => exact .inl ⟨v, cv, _, cu, b, rfl, hc, TyX.of hd (fun _ _ _ z => by cases z) (fun _ z => by cases z) (fun _ _ z => by cases z), e, fin⟩
theorem rd_isT {t : String} (ht : t ∈ ["int", "bool", "str", "tuple", "list", "dict"]) (h1 : DL.Rd K T S E te FE) : DL.Rd K T S E (tCB (rIsD K) (tCons te (tCons (tC (.ty t)) tNil))) (xIsT t FE) := fun σ ρ Hb H n P XP Q w sl h q x =>
  h1 σ ρ Hb H n _ XP _ w sl h (fun d v n1 Hb1 H1 s hd p => is_end (.ty t) (s.wd.dn hd) p.1 (kit_isTy ht hd p.1) (q _ _ n1 Hb1 H1 s (.bl _) p.2)) x
/-! ### displays of dicts -/
def xPairs : List (DT × DT) → List SV → Nat → (List Key → List D → Nat → Prop) → DX → Prop
  | [], _, n, P, _ => P [] [] n
  | (F, G) :: r, ρ, n, P, XP => F ρ n (fun a n1 => ∃ k, keyD a = some k ∧ G ρ n1 (fun d n2 => xPairs r ρ n2 (fun ks ds n3 => P (k :: ks) (d :: ds) n3) XP) XP) XP
def xDisp (prs : List (DT × DT)) : DT := fun ρ n P XP => xPairs prs ρ n (fun ks ds n1 => ks.Nodup ∧ ks.length ≤ 15 ∧ P (.dic ks ds) n1) XP
inductive RdP (K : PySem.W.Frag) (T : Tb) (S : SA) (E : XK) : List (TE × TE) → List (DT × DT) → Prop
  | nil : RdP K T S E [] []
  | cons {tk tv : TE} {F G : DT} {trs : List (TE × TE)} {prs : List (DT × DT)} : DL.Rd K T S E tk F → DL.Rd K T S E tv G → RdP K T S E trs prs → RdP K T S E ((tk, tv) :: trs) ((F, G) :: prs)
theorem key_rel {v : V} {d : D} {k : Key} (h : Dn K H v d) (e : keyD d = some k) : v = kV k := by
  cases h with
  | int i => cases e; rfl
  | str i => cases e; rfl
  | _ => cases e
theorem rd_pairs {trs : List (TE × TE)} {prs : List (DT × DT)} (h : RdP K T S E trs prs) : ∀ {σ : L2.St} {ρ : List SV} {Hb H : Hp} {n : Nat} {P : List Key → List D → Nat → Prop} {XP : DX} {Q : List (V × V) → Hp → Prop}, World T S Hb H → Slots K S Hb H n ρ σ →
    xPairs prs ρ n P XP → (∀ (kvs : List (Key × V)) (ks : List Key) (ds : List D) (n' : Nat) (Hb' H' : Hp), Stp K T S Hb H n Hb' H' n' → kvs.map (·.1) = ks → DnA K Hb' (kvs.map (·.2)) ds → P ks ds n' → Q (kvs.map fun kv => (kV kv.1, kv.2)) H') → XOk K T S Hb H n XP E → tPairs trs σ H Q := by
  induction h with
  | nil => exact fun w sl p q x => q [] [] [] _ _ _ (.refl w) rfl .nil p
  | @cons tk tv F G trs prs h1 h2 _ ih =>
    intro σ ρ Hb H n P XP Q w sl p q x
    refine h1 σ ρ Hb H n _ XP _ w sl p (fun a v n1 Hb1 H1 s hv p1 => ?_) x
    obtain ⟨k, ek, p1⟩ := p1
    refine h2 σ ρ Hb1 H1 n1 _ XP _ s.wd (sl.step s) p1 (fun d u n2 Hb2 H2 s2 hu p2 => ?_) (x.step s)
    refine ih s2.wd ((sl.step s).step s2) p2 (fun kvs ks ds n3 Hb3 H3 s3 e3 h3 p3 => ?_) ((x.step s).step s2)
    have z := q ((k, u) :: kvs) (k :: ks) (d :: ds) n3 Hb3 H3 ((s.trans s2).trans s3) (by rw [List.map_cons, e3]) (.cons (hu.up s3.ex) h3) p3
    rw [key_rel hv ek]
    exact z
theorem merge_nodup : ∀ {kvs acc : List (Key × V)}, ((acc ++ kvs).map (·.1)).Nodup → mergeK acc kvs = acc ++ kvs
  | [], acc, _ => by simp [mergeK]
  | (k, v) :: kvs, acc, h => by
    have e : putK acc k v = acc ++ [(k, v)] := by
      refine putK_new v ?_
      cases q : valV acc k with
      | none => rfl
      | some u =>
        rw [List.map_append, List.nodup_append] at h
        have hm : k ∈ acc.map (·.1) := by
          unfold valV at q
          cases f : acc.find? fun kv => decide (kv.1 = k) with
          | none => rw [f] at q; cases q
          | some kv =>
            have h1 := List.mem_of_find?_eq_some f
            have h2 := List.find?_some f
            simp at h2
            exact List.mem_map.mpr ⟨kv, h1, h2⟩
        exact absurd rfl (h.2.2 k hm k (by simp))
    show mergeK (putK acc k v) kvs = _
    rw [e, merge_nodup (acc := acc ++ [(k, v)]) (by simpa using h)]
    simp
theorem rd_disp {trs : List (TE × TE)} {prs : List (DT × DT)} (h : RdP K T S E trs prs) : DL.Rd K T S E (tDisp trs) (xDisp prs) := fun σ ρ Hb H n P XP Q w sl hp q x p hn => by
  have s0 : Stp K T S Hb H n Hb (upd H p (.dK [])) n := .newO w hn
  obtain ⟨n1, n2, n3⟩ := w.nS (fresh_none hn)
  refine rd_pairs h s0.wd (sl.step s0) hp (fun kvs ks ds n' Hb' H' s ek hd p1 => ?_) (x.step s0)
  obtain ⟨hnd, hl, p1⟩ := p1
  obtain ⟨g1, g2⟩ := s.own p _ upd_same (free_of w.ex hn) n1 n2 (fun ps z => by cases z)
  have el : kvs.length = ks.length := by rw [← ek, List.length_map]
  refine ⟨g1, kvs, rfl, by omega, ?_⟩
  have em : mergeK [] kvs = kvs := by
    rw [merge_nodup (by rw [List.nil_append, ek]; exact hnd)]
    rfl
  rw [em]
  refine q _ _ n' _ _ ((s0.trans s).freeze (o := .dK kvs) (fresh_none hn) g2 (by rw [g1]; exact fun z => by cases z) (fun ps z => by rw [g1] at z; cases z) (fun c u z => by rw [g1] at z; exact codeO_no (o := .dK []) (fun _ z => by cases z) (Option.some.inj z)) n1 n2 n3) (.dic upd_same ek (hd.up (Ex.new g2))) p1
def xDNew : DT := fun _ n P _ => P (.dic [] []) n
theorem rd_dnew : DL.Rd K T S E tDNewK xDNew := fun σ ρ Hb H n P XP Q w sl h q x p hp => q.new w hp (.dic upd_same rfl .nil) h
end
end DL

/-! defs by their promise on data -/
namespace DL
open L2 PySem PySem.Spec PyProof.Rows
open Evl (Ex ex_l ex_t sz_of)
def startS (N : List Str) (ss : List SV) : List SV := ss ++ List.replicate (N.length - ss.length) .no
def noOl : List SV → Bool
  | [] => true
  | .ol _ :: _ => false
  | .me _ _ _ _ :: _ => false
  | .od _ _ :: _ => false
  | .ot _ _ :: _ => false
  | _ :: ss => noOl ss
def noL : List SV → Bool
  | [] => true
  | .ol _ :: _ => false
  | _ :: ss => noL ss
theorem noL_of : ∀ {ss : List SV}, noOl ss = true → noL ss = true
  | [], _ => rfl
  | .ol _ :: _, h => by exact (Bool.noConfusion h)
  | .me _ _ _ _ :: _, h => by exact (Bool.noConfusion h)
  | .od _ _ :: _, h => by exact (Bool.noConfusion h)
  | .ot _ _ :: _, h => by exact (Bool.noConfusion h)
  | .fv _ :: ss, h => noL_of (ss := ss) h
  | .no :: ss, h => noL_of (ss := ss) h
  | .st :: ss, h => noL_of (ss := ss) h
  | .d _ :: ss, h => noL_of (ss := ss) h
section
variable {K : PySem.W.Frag} {T : Tb} {S : SA} {E : XK} {Hb H Hb1 H1 : Hp} {n n1 : Nat} {X : Cx}
theorem Args.get : ∀ {ss : List SV} {vs : List V} {i : Nat} {s : SV}, Args K S Hb H n ss vs → ss[i]? = some s → ∃ v, vs[i]? = some v ∧ SlotOk K S Hb H n s (some v)
  | [], _, i, s, _, e => by simp at e
  | s :: ss, _, 0, s', h, e => by
    cases h with
    | cons h1 h2 =>
      simp at e
      subst e
      exact ⟨_, rfl, h1⟩
  | s :: ss, _, i + 1, s', h, e => by
    cases h with
    | cons h1 h2 => exact Args.get (i := i) h2 (by simpa using e)
theorem noOl_get : ∀ {ss : List SV} {i : Nat} {s : SV}, noOl ss = true → ss[i]? = some s → isOwn s = false
  | [], i, s, _, e => by simp at e
  | .no :: _, 0, s, h, e => by simp at e; subst e; rfl
  | .st :: _, 0, s, h, e => by simp at e; subst e; rfl
  | .d _ :: _, 0, s, h, e => by simp at e; subst e; rfl
  | .ol _ :: _, _, s, h, e => by exact Bool.noConfusion h
  | .me _ _ _ _ :: _, _, s, h, e => by exact Bool.noConfusion h
  | .od _ _ :: _, _, s, h, e => by exact Bool.noConfusion h
  | .ot _ _ :: _, _, s, h, e => by exact Bool.noConfusion h
  | .fv _ :: _, 0, s, h, e => by simp at e; subst e; rfl
  | .fv _ :: ss, i + 1, s, h, e => noOl_get (ss := ss) (i := i) h (by simpa using e)
  | .no :: ss, i + 1, s, h, e => noOl_get (ss := ss) (i := i) h (by simpa using e)
  | .st :: ss, i + 1, s, h, e => noOl_get (ss := ss) (i := i) h (by simpa using e)
  | .d _ :: ss, i + 1, s, h, e => noOl_get (ss := ss) (i := i) h (by simpa using e)
theorem noL_get : ∀ {ss : List SV} {i : Nat} {xs : List D}, noL ss = true → ss[i]? ≠ some (.ol xs)
  | [], i, xs, _ => by simp
  | s :: ss, 0, xs, h => by
    intro e
    simp at e
    subst e
    exact absurd h (by simp [noL])
  | s :: ss, i + 1, xs, h => by
    have h' : noL ss = true := by cases s <;> first | exact h | (exact absurd h (by simp [noL]))
    simpa using noL_get (i := i) h'
theorem start_cases {N : List Str} {ss : List SV} {i : Nat} {s : SV} (ei : (startS N ss)[i]? = some s) : ss[i]? = some s ∨ s = .no := by
  unfold startS at ei
  by_cases hi : i < ss.length
  · rw [List.getElem?_append_left hi] at ei
    exact .inl ei
  · rw [List.getElem?_append_right (by omega), List.getElem?_replicate] at ei
    split at ei
    · exact .inr (Option.some.inj ei).symm
    · cases ei
theorem start_no {N : List Str} {ss : List SV} {i : Nat} {xs : List D} (ho : noL ss = true) (ei : (startS N ss)[i]? = some (.ol xs)) : False := by
  rcases start_cases ei with h | h
  · exact absurd h (noL_get ho)
  · cases h
theorem start_fr {N : List Str} {ss : List SV} {σ : L2.St} {H0 : Hp} (ho : noOl ss = true) : OwF H0 (startS N ss) σ := fun _ _ _ ei eo _ => by
  rcases start_cases ei with h | h
  · rw [noOl_get ho h] at eo
    cases eo
  · subst h
    cases eo
theorem Slots.start {N : List Str} {ss : List SV} {vs : List V} (h : Args K S Hb H n ss vs) (ho : noL ss = true) : Slots K S Hb H n (startS N ss) (L2.start N vs) where
  len := by
    unfold startS L2.start
    rw [List.length_append, List.length_append, List.length_map, List.length_replicate, List.length_replicate, h.len]
  ok := fun i s e => by
    unfold startS at e
    unfold L2.start
    have hl := h.len
    by_cases hi : i < ss.length
    · rw [List.getElem?_append_left hi] at e
      obtain ⟨v, ev, hv⟩ := h.get e
      refine ⟨some v, ?_, hv⟩
      rw [List.getElem?_append_left (by rw [List.length_map, ← hl]; exact hi), List.getElem?_map, ev]
      rfl
    · rw [List.getElem?_append_right (by omega)] at e
      have es : s = .no := by
        rw [List.getElem?_replicate] at e
        split at e
        · exact (Option.some.inj e).symm
        · cases e
      subst es
      have hlt : i - ss.length < N.length - ss.length := by
        have := (List.getElem?_eq_some_iff.mp e).1
        simpa using this
      refine ⟨none, ?_, trivial⟩
      rw [List.getElem?_append_right (by rw [List.length_map]; omega), List.length_map, List.getElem?_replicate, if_pos (by omega)]
  ap := fun i j p xs ys _ ei _ _ _ => (start_no ho ei).elim

/-- a promise on data, no error -/
abbrev DSp0 := List SV → Nat → DQ → Prop
def sp0 (K : PySem.W.Frag) (T : Tb) (DS : DSp0) : Sp := spOf K T (fun ss n P _ => noOl ss = true ∧ DS ss n P)
variable {P : Program} {w : PySem.World} {mg : Str → Option Value} {base : Heap}
theorem _root_.L2.Fun.okD {x qual : Str} {st : Stmt} {f : Addr} {fd : FuncData} {N ps : List Str} {k : Nat} {DS : DSp0} (F : Fun K x qual st f fd) (Sc : FnScope N ps (defScope st)) (len : ∀ ss n P, DS ss n P → ss.length = ps.length)
    (hb : ∀ (S : SA) (cdv : Value) (A : Around) (outer : List Env) (s : Shared) (H : Hp) (E : XK), Room k (A.deeper (envOfC qual (defScope st) s.heap.objs.size f cdv)) →
      ∃ ts G, PSs (cxOf CX0 P w K mg base N qual (defScope st) f cdv A outer s H E).nox (defBody st) ts ∧ RdS K T S E0 ts G ∧ ∀ ss n P, DS ss n P → G { nx := fun _ n => P .non n, rt := P } (startS N ss) n xF) :
    FnOk P w K mg base CX0 (k + 1) f fd ps (sp0 K T DS) := by
  refine F.ok Sc (fun vs H Q E h => ?_) (fun cdv A outer s H vs Q E hr h => ?_)
  · obtain ⟨S, Hb, n, ss, P, XP, _, ha, ⟨_, hd⟩, _⟩ := h
    rw [← ha.len]
    exact len ss n P hd
  · obtain ⟨S, Hb, n, ss, P, XP, wd, ha, ⟨ho, hd⟩, q, _⟩ := h
    obtain ⟨ts, G, h1, h2, h3⟩ := hb S cdv A outer s H E hr
    refine ⟨ts, h1, h2 _ _ Hb H n Hb H n _ xF _ (.refl wd) ⟨.start ha (noL_of ho), start_fr ho⟩ (h3 ss n P hd) ⟨fun ρ σ n' Hb' H' _ st _ p => q _ _ _ _ _ st .non p, q, fun _ _ _ _ _ _ _ _ p => p.elim, fun _ _ _ _ _ _ _ _ p => p.elim⟩ .none⟩
/-! ### calls -/
def xCall0 (DS : DSp0) (G : DTA) : DT := fun ρ n P XP => G ρ n (fun ss n1 => noOl ss = true ∧ DS ss n1 P) XP
theorem rd_call0 {DS : DSp0} {ta : TA} {G : DTA} {E : XK} {E' : XK} (h : RdA K T S E' ta G) : DL.Rd K T S E' (tCall (sp0 K T DS) [] E ta) (xCall0 DS G) := fun σ ρ Hb H n P XP Q w sl hf q x =>
  h σ ρ Hb H n _ XP _ w sl hf (fun ss vs n1 Hb1 H1 s ha p => by
    show sp0 K T DS (vs ++ []) H1 Q E
    rw [List.append_nil]
    exact ⟨S, Hb1, n1, ss, P, xF, s.wd, ha, p, q.step s, .none⟩) x
end
end DL

/-! how a def stands behind the top; the first words for goals on data -/
namespace DL
open L2 PySem PySem.Spec PyProof.Rows
/-- a def of the text as the top leaves it -/
def DefAt (K : PySem.W.Frag) (mg : Str → Option Value) (name : Str) (st : Stmt) (ps : List Str) : Prop :=
  ∃ f fd, Fun K name name st f fd ∧ mg name = some (.ref f) ∧ PySem.W.keepIn K (.ref f) = true ∧ Binds K fd ps []
/-- a def with its promise -/
def Has (P : Program) (w : PySem.World) (K : PySem.W.Frag) (mg : Str → Option Value) (base : Heap) (CX : CXT) (k : Nat) (name : Str) (ps : List Str) (sp : Sp) : Prop :=
  ∃ f fd, FnOk P w K mg base CX k f fd ps sp ∧ mg name = some (.ref f) ∧ PySem.W.keepIn K (.ref f) = true ∧ Binds K fd ps []
theorem slotD_zero {x : D} {ρ : List SV} {k : D → Prop} : slotD (.d x :: ρ) 0 k = k x := rfl
theorem slotD_succ {s : SV} {ρ : List SV} {i : Nat} {k : D → Prop} : slotD (s :: ρ) (i + 1) k = slotD ρ i k := rfl
def isInt : D → Bool
  | .int _ => true
  | _ => false
end DL

/-! lists of one's own -/
namespace DL
open L2 PySem PySem.Spec PyProof.Rows
open Evl (Ex ex_l ex_t sz_of)
section
variable {K : PySem.W.Frag} {T : Tb} {S : SA} {E : XK} {Hb H Hb1 H1 : Hp} {n n1 : Nat} {te : TE} {FE : DT}
def slotO (ρ : List SV) (i : Nat) (k : List D → Prop) : Prop := match ρ[i]? with
  | some (.ol x) => k x
  | _ => False
theorem slotO_zero {x : List D} {ρ : List SV} {k : List D → Prop} : slotO (.ol x :: ρ) 0 k = k x := rfl
theorem slotO_succ {s : SV} {ρ : List SV} {i : Nat} {k : List D → Prop} : slotO (s :: ρ) (i + 1) k = slotO ρ i k := rfl
theorem Slots.own {ρ : List SV} {σ : L2.St} {i : Nat} {k : List D → Prop} (sl : Slots K S Hb H n ρ σ) (h : slotO ρ i k) : ∃ xs p vs, ρ[i]? = some (.ol xs) ∧ σ[i]? = some (some (.ref p)) ∧ H p = some (.lst vs) ∧ Hb p = none ∧ p ≠ S.a ∧ p ≠ S.l ∧ p ≠ S.c ∧ DnA K Hb vs xs ∧ k xs := by
  unfold slotO at h
  cases e : ρ[i]? with
  | none => rw [e] at h; exact h.elim
  | some s =>
    rw [e] at h
    cases s with
    | ol xs =>
      obtain ⟨o, e1, p, vs, e2, e3, e4, e5, e6, e8, e7⟩ := sl.ok i _ e
      exact ⟨xs, p, vs, rfl, by rw [e1, e2], e3, e4, e5, e6, e8, e7, h⟩
    | no => exact h.elim
    | st => exact h.elim
    | d x => exact h.elim
    | me _ _ _ _ => exact h.elim
    | od _ _ => exact h.elim
    | ot _ _ => exact h.elim
    | fv _ => exact h.elim
/-- a slot gets a list of one's own -/
theorem Slots.setO {ρ : List SV} {σ : L2.St} {i : Nat} {p : Addr} {vs : List V} {xs : List D} (sl : Slots K S Hb H n ρ σ) (h1 : H p = some (.lst vs)) (h2 : Hb p = none) (h3 : p ≠ S.a) (h4 : p ≠ S.l) (h4c : p ≠ S.c) (h5 : DnA K Hb vs xs)
    (fr : ∀ (j : Nat) (ys : List D), ρ[j]? = some (.ol ys) → σ[j]? ≠ some (some (.ref p))) : Slots K S Hb H n (ρ.set i (.ol xs)) (σ.set i (some (.ref p))) where
  len := by rw [List.length_set, List.length_set]; exact sl.len
  ok := fun j s e => by
    by_cases hj : i = j
    · subst hj
      have hl : i < ρ.length := by
        have := (List.getElem?_eq_some_iff.mp e).1
        rwa [List.length_set] at this
      rw [List.getElem?_set_self hl] at e
      cases e
      exact ⟨_, List.getElem?_set_self (by rw [← sl.len]; exact hl), p, vs, rfl, h1, h2, h3, h4, h4c, h5⟩
    · rw [List.getElem?_set_ne hj] at e
      obtain ⟨o, e1, e2⟩ := sl.ok j s e
      exact ⟨o, by rw [List.getElem?_set_ne hj]; exact e1, e2⟩
  ap := fun j k q ys zs hjk ej ek sj sk => by
    by_cases hj : i = j
    · subst hj
      have hk : i ≠ k := hjk
      rw [List.getElem?_set_ne hk] at ek sk
      have hl : i < ρ.length := by
        have := (List.getElem?_eq_some_iff.mp ej).1
        rwa [List.length_set] at this
      rw [List.getElem?_set_self (by rw [← sl.len]; exact hl)] at sj
      have eq : p = q := V.ref.inj (Option.some.inj (Option.some.inj sj))
      subst eq
      exact fr k zs ek sk
    · by_cases hk : i = k
      · subst hk
        rw [List.getElem?_set_ne hj] at ej sj
        have hl : i < ρ.length := by
          have := (List.getElem?_eq_some_iff.mp ek).1
          rwa [List.length_set] at this
        rw [List.getElem?_set_self (by rw [← sl.len]; exact hl)] at sk
        have eq : p = q := V.ref.inj (Option.some.inj (Option.some.inj sk))
        subst eq
        exact fr j ys ej sj
      · rw [List.getElem?_set_ne hj] at ej sj
        rw [List.getElem?_set_ne hk] at ek sk
        exact sl.ap j k q ys zs hjk ej ek sj sk
/-- the step that rewrites a list of one's own; what others hold stays -/
theorem own_write {ρ : List SV} {σ : L2.St} {i : Nat} {p : Addr} {vs us : List V} {xs ys : List D} (w : World T S Hb H) (sl : Slots K S Hb H n ρ σ) (ei : ρ[i]? = some (.ol xs)) (es : σ[i]? = some (some (.ref p))) (h1 : H p = some (.lst vs)) (h2 : Hb p = none) (h3 : p ≠ S.a) (h4 : p ≠ S.l)
    (h6 : DnA K Hb us ys) (hpc : p ≠ S.c) : World T S Hb (upd H p (.lst us)) ∧ Slots K S Hb (upd H p (.lst us)) n (ρ.set i (.ol ys)) σ := by
  have hnt : ∀ q ∈ T, q.1 ≠ p := fun q hq z => by
    obtain ⟨ps, e, _⟩ := w.tabs q hq
    rw [z, h1] at e
    cases e
  have keep : ∀ {b : Addr} {o : HO}, H b = some o → b ≠ p → upd H p (.lst us) b = some o := fun e hb => by rw [upd_ne hb]; exact e
  refine ⟨⟨fun b o e => keep (w.ex b o e) (fun z => by rw [z, h2] at e; cases e), fun q hq => ?_, w.tb, ?_, ?_, ?_, w.nt⟩, ?_⟩
  · obtain ⟨ps, e, t1, t2⟩ := w.tabs q hq
    refine ⟨ps, keep e (hnt q hq), t1, fun pos cv hcv => ?_⟩
    obtain ⟨c, e1, e2⟩ := t2 pos cv hcv
    exact ⟨c, e1, keep e2 (fun z => by rw [z, h1] at e2; exact codeO_no (o := .lst vs) (fun _ z => by cases z) (Option.some.inj e2))⟩
  · exact w.sa.upd fun _ z => by cases z
  · exact w.sl.upd fun _ z => by cases z
  · exact w.sc.upd fun _ z => by cases z
  · refine ⟨by rw [List.length_set]; exact sl.len, fun j s e => ?_, fun j k q y z hjk ej ek sj sk => ?_⟩
    · by_cases hj : i = j
      · subst hj
        have hl : i < ρ.length := (List.getElem?_eq_some_iff.mp ei).1
        rw [List.getElem?_set_self hl] at e
        cases e
        exact ⟨_, es, p, us, rfl, upd_same, h2, h3, h4, hpc, h6⟩
      · rw [List.getElem?_set_ne hj] at e
        obtain ⟨o, e1, e2⟩ := sl.ok j s e
        refine ⟨o, e1, ?_⟩
        cases s with
        | no => trivial
        | d x => exact e2
        | st =>
          obtain ⟨e3, st⟩ := e2
          obtain ⟨g1, g2, ls, cs, m, t, g3, g4, g5, g6, g7, g8, rest⟩ := st
          exact ⟨e3, g1, g2, ls, cs, m, t, g3, g4, g5, keep g6 h3.symm, keep g7 h4.symm, g8, rest⟩
        | ol zs =>
          obtain ⟨q, ws, e3, e4, e5, e6, e7, e9, e8⟩ := e2
          have hqp : q ≠ p := fun z => by
            subst z
            exact sl.ap i j q xs zs hj ei e es (by rw [e1, e3])
          exact ⟨q, ws, e3, keep e4 hqp, e5, e6, e7, e9, e8⟩
        | me y C ms es2 =>
          obtain ⟨e3, dx, fs, e4, rest⟩ := e2
          exact ⟨e3, dx, fs, keep e4 (fun z => by rw [z, h1] at e4; cases e4), rest⟩
        | od ks es2 =>
          obtain ⟨q, kvs, e3, e4, rest⟩ := e2
          exact ⟨q, kvs, e3, keep e4 (fun z => by rw [z, h1] at e4; cases e4), rest⟩
        | ot ks es2 =>
          obtain ⟨q, kvs, e3, e4, rest⟩ := e2
          exact ⟨q, kvs, e3, keep e4 (fun z => by rw [z, h1] at e4; cases e4), rest⟩
        | fv F =>
          obtain ⟨f, c, e3, e4, e5, rest⟩ := e2
          exact ⟨f, c, e3, e4, keep e5 (fun z => by rw [z, h1] at e5; exact codeO_no (o := .lst vs) (fun _ z => by cases z) (Option.some.inj e5)), rest⟩
    · have f : ∀ {m : Nat} {u : List D}, (ρ.set i (.ol ys))[m]? = some (.ol u) → ∃ u', ρ[m]? = some (.ol u') := fun {m u} e => by
        by_cases hm : i = m
        · subst hm
          exact ⟨xs, ei⟩
        · rw [List.getElem?_set_ne hm] at e
          exact ⟨u, e⟩
      obtain ⟨y', ey⟩ := f ej
      obtain ⟨z', ez⟩ := f ek
      exact sl.ap j k q y' z' hjk ey ez sj sk
/-- y = [..], a list of one's own -/
theorem rds_setO {i : Nat} {F : DTL} (h1 : RdN K T S E te F) : RdS K T S E (tAsg te (gName i)) (xsSetO i F) := fun σ ρ Hb0 H0 n0 Hb H n DD XP D a sl h q x =>
  h1 σ ρ Hb H n _ XP _ a.wd sl.sl h (fun ds p vs n1 Hb1 H1 s hp e1 e2 hd pp => by
    obtain ⟨m1, m2, m3⟩ := a.wd.nS hp
    refine q.nx _ _ n1 Hb1 H1 s.ex (a.trans s) ⟨(sl.sl.step s).setO e1 e2 m1 m2 m3 hd (fun j ys ej sj => ?_), fun j xs r ej eo sj => ?_⟩ pp
    · obtain ⟨o, g1, r, ws, g2, g3, _⟩ := sl.sl.ok j _ ej
      rw [g1, g2] at sj
      have er : r = p := V.ref.inj (Option.some.inj (Option.some.inj sj))
      rw [er] at g3
      exact absurd rfl (hp.ne g3 fun _ z => by cases z)
    · by_cases hj : i = j
      · subst hj
        have hl : i < ρ.length := by
          have := (List.getElem?_eq_some_iff.mp ej).1
          rwa [List.length_set] at this
        rw [List.getElem?_set_self (by rw [← sl.sl.len]; exact hl)] at sj
        have er : p = r := V.ref.inj (Option.some.inj (Option.some.inj sj))
        rw [← er]
        exact a.dm p hp
      · rw [List.getElem?_set_ne hj] at ej sj
        exact sl.fr j xs r ej eo sj) (x.step a)
/-- len(xs), tuple(xs), list(xs) -/
def xLenO (i : Nat) : DT := fun ρ n P _ => slotO ρ i fun xs => P (.int xs.length) n
theorem rd_lenO {i : Nat} : DL.Rd K T S E (tCB (rLenU K) (tCons (tVar i) tNil)) (xLenO i) := fun σ ρ Hb H n P XP Q w sl h q x => by
  obtain ⟨xs, p, vs, e, es, e3, e4, e5, e6, e8, e7, h⟩ := sl.own h
  exact ⟨.ref p, es, .inl ⟨p, vs, rfl, .inl (SqL.of e3), q.now w (.int _) (by rw [e7.len]; exact h)⟩⟩
def xTupO (i : Nat) : DT := fun ρ n P _ => slotO ρ i fun xs => P (.tup xs) n
theorem rd_tupO {i : Nat} : DL.Rd K T S E (tCB (rTupOf K) (tCons (tVar i) tNil)) (xTupO i) := fun σ ρ Hb H n P XP Q w sl h q x => by
  obtain ⟨xs, p, vs, e, es, e3, e4, e5, e6, e8, e7, h⟩ := sl.own h
  exact ⟨.ref p, es, p, vs, rfl, .inl ⟨SqL.of e3, fun l hl => q.new w hl (.tup (SqT.of upd_same) (e7.up (Ex.new (free_of w.ex hl)))) h⟩⟩
/-- a statement that rewrites a list of one's own -/
theorem own_stmt {i : Nat} {ρ : List SV} {σ : L2.St} {p : Addr} {vs us : List V} {xs ys : List D} {Hb0 H0 : Hp} {n0 : Nat} {DD : DEn} {D : Ends} (a : Stp K T S Hb0 H0 n0 Hb H n) (sl : Sl0 K S H0 Hb H n ρ σ) (q : EOk K T S Hb0 H0 n0 Hb DD D)
    (ei : ρ[i]? = some (.ol xs)) (es : σ[i]? = some (some (.ref p))) (h1 : H p = some (.lst vs)) (h2 : Hb p = none) (h3 : p ≠ S.a) (h4 : p ≠ S.l) (hc : p ≠ S.c) (h6 : DnA K Hb us ys) (pp : DD.nx (ρ.set i (.ol ys)) n) : D.nx σ (upd H p (.lst us)) := by
  have f0 : Fresh H0 p := sl.fr i _ p ei rfl es
  obtain ⟨w', sl'⟩ := own_write (us := us) (ys := ys) a.wd sl.sl ei es h1 h2 h3 h4 h6 hc
  refine q.nx _ _ n Hb _ (Ex.refl _) ⟨a.ex, w', fun h0 => ?_, fun b o e1 e2 e3 e4 e5 => ?_, fun b e => a.dm b (dm_upd (fun _ z => by cases z) b e)⟩ ⟨sl', fun j zs r ej eo sj => ?_⟩ pp
  · obtain ⟨g1, g2, ls, cs, m, t, g3, g4, g5, g6, g7, g8, rest⟩ := a.st h0
    exact ⟨g1, g2, ls, cs, m, t, g3, g4, g5, by rw [upd_ne h3.symm]; exact g6, by rw [upd_ne h4.symm]; exact g7, g8, rest⟩
  · have hb : b ≠ p := f0.ne e1 e5
    rw [upd_ne hb]
    exact a.own b o e1 e2 e3 e4 e5
  · by_cases hj : i = j
    · subst hj
      rw [es] at sj
      cases sj
      exact f0
    · rw [List.getElem?_set_ne hj] at ej
      exact sl.fr j zs r ej eo sj
theorem DnA.set {vs : List V} {ds : List D} {v : V} {d : D} (hv : Dn K H v d) : ∀ (m : Nat) {vs : List V} {ds : List D}, DnA K H vs ds → DnA K H (vs.set m v) (ds.set m d)
  | _, _, _, .nil => by simp; exact .nil
  | 0, _, _, .cons h1 h2 => .cons hv h2
  | m + 1, _, _, .cons h1 h2 => .cons h1 (DnA.set (vs := []) (ds := []) hv m h2)
/-- xs.append(e) -/
def xsAppO (i : Nat) (F : DT) : DTS := fun DD ρ n XP => slotO ρ i fun xs => F ρ n (fun d n1 => xs.length < 100000 ∧ DD.nx (ρ.set i (.ol (xs ++ [d]))) n1) XP
theorem rds_appO {i : Nat} (h1 : DL.Rd K T S E te FE) : RdS K T S E (tDrop (tBM K "list" rAppend (tVar i) (tCons te tNil))) (xsAppO i FE) := fun σ ρ Hb0 H0 n0 Hb H n DD XP D a sl h q x => by
  obtain ⟨xs, p, vs, e, es, e3, e4, e5, e6, e8, e7, h⟩ := sl.sl.own h
  refine ⟨.ref p, es, .inl ⟨rfl, vs, SqL.of e3⟩, ?_⟩
  refine h1 σ ρ Hb H n _ XP _ a.wd sl.sl h (fun d v n1 Hb1 H1 s hd pp => ?_) (x.step a)
  obtain ⟨g1, g2⟩ := s.own p _ e3 e4 e5 e6 (fun ps z => by cases z)
  have h7 := e7.up s.ex
  exact ⟨p, vs, v, rfl, rfl, g1, Evl.sz_lt (by rw [e7.len]; exact pp.1), own_stmt (a.trans s) (sl.step s) (q.up s.ex) e es g1 g2 e5 e6 e8 (h7.app (.one hd)) pp.2⟩
end
end DL

/-! the source of draws, as its two objects stand -/
namespace DL
open L2 PySem PySem.Spec PyProof.Rows
open Evl (Ex ex_l ex_t sz_of)
def stDict (S : SA) (m : Int) (t : Int) : List (Key × V) := [(kLarge, .ref S.l), (kCells, .ref S.c), (kLeft, .int m), (kTurn, .int t)]
theorem kne1 : ¬ kLarge = kCells := by decide +kernel
theorem kne2 : ¬ kLarge = kLeft := by decide +kernel
theorem kne3 : ¬ kLarge = kTurn := by decide +kernel
theorem kne4 : ¬ kCells = kLeft := by decide +kernel
theorem kne5 : ¬ kCells = kTurn := by decide +kernel
theorem kne6 : ¬ kLeft = kTurn := by decide +kernel
theorem st_large {S : SA} {m t : Int} : valV (stDict S m t) kLarge = some (.ref S.l) := by simp [valV, stDict]
theorem st_cells {S : SA} {m t : Int} : valV (stDict S m t) kCells = some (.ref S.c) := by simp [valV, stDict, kne1]
theorem st_left {S : SA} {m t : Int} : valV (stDict S m t) kLeft = some (.int m) := by simp [valV, stDict, kne2, kne4]
theorem st_turn {S : SA} {m t : Int} : valV (stDict S m t) kTurn = some (.int t) := by simp [valV, stDict, kne3, kne5, kne6]
theorem st_putL {S : SA} {m t k : Int} : putK (stDict S m t) kLeft (.int k) = stDict S k t := by
  simp [putK, stDict, kne2, kne4, Ne.symm (a := kLeft) (b := kTurn) kne6]
theorem st_putT {S : SA} {m t k : Int} : putK (stDict S m t) kTurn (.int k) = stDict S m k := by
  simp [putK, stDict, kne3, kne5, kne6]
/-- what a draw leaves as it was -/
structure Drw (S : SA) (H H' : Hp) : Prop where
  fr : ∀ b o, H b = some o → b ≠ S.a → b ≠ S.l → H' b = some o
  dm : ∀ b, Fresh H' b → Fresh H b
theorem Drw.refl {S : SA} (H : Hp) : Drw S H H := ⟨fun _ _ h _ _ => h, fun _ h => h⟩
theorem Drw.new {S : SA} {H H' : Hp} {p : Addr} {o : HO} (d : Drw S H H') (hp : H' p = none) (ho : ∀ ps, o ≠ .tbl ps := by intro _ z; cases z) : Drw S H (upd H' p o) := ⟨fun b u h h1 h2 => by
  have e := d.fr b u h h1 h2
  rw [upd_ne (ne_of_none e hp)]
  exact e, fun b h => d.dm b (dm_upd ho b h)⟩
theorem Drw.setA {S : SA} {H H' : Hp} {o : HO} (d : Drw S H H') (ho : ∀ ps, o ≠ .tbl ps := by intro _ z; cases z) : Drw S H (upd H' S.a o) := ⟨fun b u h h1 h2 => by
  rw [upd_ne h1]
  exact d.fr b u h h1 h2, fun b h => d.dm b (dm_upd ho b h)⟩
theorem Drw.setL {S : SA} {H H' : Hp} {o : HO} (d : Drw S H H') (ho : ∀ ps, o ≠ .tbl ps := by intro _ z; cases z) : Drw S H (upd H' S.l o) := ⟨fun b u h h1 h2 => by
  rw [upd_ne h2]
  exact d.fr b u h h1 h2, fun b h => d.dm b (dm_upd ho b h)⟩
/-- the source's two objects -/
structure StA (S : SA) (H : Hp) (ls : List Int) (m t : Int) : Prop where
  ea : H S.a = some (.dK (stDict S m t))
  el : H S.l = some (.lst (ls.map V.int))
theorem StA.new {S : SA} {H : Hp} {ls : List Int} {m t : Int} {p : Addr} {o : HO} (s : StA S H ls m t) (hp : H p = none) : StA S (upd H p o) ls m t :=
  ⟨by rw [upd_ne (ne_of_none s.ea hp)]; exact s.ea, by rw [upd_ne (ne_of_none s.el hp)]; exact s.el⟩
theorem StA.getL {S : SA} {H : Hp} {ls : List Int} {m t : Int} (s : StA S H ls m t) : DGet H S.a (.str "left") (some (.int m)) := by
  have e : (some (V.int m)) = valV (stDict S m t) kLeft := st_left.symm
  rw [e]
  exact DGet.k (k := kLeft) s.ea
theorem StA.getT {S : SA} {H : Hp} {ls : List Int} {m t : Int} (s : StA S H ls m t) : DGet H S.a (.str "turn") (some (.int t)) := by
  have e : (some (V.int t)) = valV (stDict S m t) kTurn := st_turn.symm
  rw [e]
  exact DGet.k (k := kTurn) s.ea
theorem StA.getG {S : SA} {H : Hp} {ls : List Int} {m t : Int} (s : StA S H ls m t) : DGet H S.a (.str "large") (some (.ref S.l)) := by
  have e : (some (V.ref S.l)) = valV (stDict S m t) kLarge := st_large.symm
  rw [e]
  exact DGet.k (k := kLarge) s.ea
theorem StA.getC {S : SA} {H : Hp} {ls : List Int} {m t : Int} (s : StA S H ls m t) : DGet H S.a (.str "cells") (some (.ref S.c)) := by
  have e : (some (V.ref S.c)) = valV (stDict S m t) kCells := st_cells.symm
  rw [e]
  exact DGet.k (k := kCells) s.ea
theorem st_len {S : SA} {m t : Int} : (stDict S m t).length < sizeLine := by show 4 < sizeLine; decide
theorem StA.putL {S : SA} {H : Hp} {ls : List Int} {m t k : Int} (s : StA S H ls m t) : DPut H S.a (.str "left") (.int k) (upd H S.a (.dK (stDict S k t))) := by
  have z := DPut.k (k := kLeft) (v := .int k) s.ea st_len
  rw [st_putL] at z
  exact z
theorem StA.putT {S : SA} {H : Hp} {ls : List Int} {m t k : Int} (s : StA S H ls m t) : DPut H S.a (.str "turn") (.int k) (upd H S.a (.dK (stDict S m k))) := by
  have z := DPut.k (k := kTurn) (v := .int k) s.ea st_len
  rw [st_putT] at z
  exact z
theorem ints_dp {K : PySem.W.Frag} {H : Hp} : ∀ (ns : List Int), DpAll K H (ns.map V.int) (ns.map PyData.int)
  | [] => .nil
  | n :: ns => .cons (.int n) (ints_dp ns)
theorem eqv_nil (ns : List Int) : PyData.eqv (.list (ns.map PyData.int)) (.list []) = ns.isEmpty := by
  cases ns with
  | nil => rfl
  | cons n ns => rfl
theorem lay_ints : ∀ ns : List Int, PyData.canLayAll0 (ns.map PyData.int) = true
  | [] => by simp [PyData.canLayAll0]
  | n :: ns => by simp [PyData.canLayAll0, PyData.canLay0, lay_ints ns]
theorem depth_ints : ∀ ns : List Int, PyData.depthAll (ns.map PyData.int) = 0
  | [] => by simp [PyData.depthAll]
  | n :: ns => by simp [PyData.depthAll, PyData.depth, depth_ints ns]
theorem shaped_ints (ns : List Int) : SeqAt.shaped (.list (ns.map PyData.int)) = true := by
  unfold SeqAt.shaped
  simp [PyData.canLay0, lay_ints ns, PyData.depth, depth_ints ns]
theorem shaped_nil : SeqAt.shaped (.list []) = true := shaped_ints []
/-- the draw's end: a step of ours -/
theorem draw_end {K : PySem.W.Frag} {T : Tb} {S : SA} {Hb H H' : Hp} {n : Nat} {ls : List Int} {m : Int} {t : Nat} (w : World T S Hb H) (st : StOk K S Hb H n) (d : Drw S H H') (s : StA S H' ls m t) (hm : 0 ≤ m) (hl : ∀ x ∈ ls, 0 ≤ x) (hn : ls.length ≤ 63) {n' : Nat} (ht : t ≤ n') : Stp K T S Hb H n Hb H' n' := by
  obtain ⟨g1, g2, ls0, cs0, m0, t0, g3, g4, g5, g6, g7, g8, k1, k2, k3, k4, k5, k6⟩ := st
  have nA : ∀ {b : Addr} {o : HO}, H b = some o → (∀ kvs, o ≠ .dK kvs) → b ≠ S.a := fun e h z => by
    rw [z, g6] at e
    cases e
    exact h _ rfl
  have nL : ∀ {b : Addr} {o : HO}, H b = some o → (∀ xs, o ≠ .lst xs) → b ≠ S.l := fun e h z => by
    rw [z, g7] at e
    cases e
    exact h _ rfl
  refine ⟨Ex.refl _, ⟨fun b o e => ?_, fun q hq => ?_, w.tb, ⟨_, s.ea, fun _ z => by cases z⟩, ⟨_, s.el, fun _ z => by cases z⟩, ⟨_, d.fr _ _ (w.ex _ _ g8) g4 g3, fun _ z => by cases z⟩, w.nt⟩, fun _ => ?_, fun b o e1 e2 e3 e4 _ => ⟨d.fr b o e1 e3 e4, e2⟩, d.dm⟩
  · exact d.fr b o (w.ex b o e) (fun z => by rw [z, g1] at e; cases e) (fun z => by rw [z, g2] at e; cases e)
  · obtain ⟨ps, e, t1, t2⟩ := w.tabs q hq
    refine ⟨ps, d.fr _ _ e (nA e fun _ z => by cases z) (nL e fun _ z => by cases z), t1, fun pos cv hcv => ?_⟩
    obtain ⟨c, e1, e2⟩ := t2 pos cv hcv
    exact ⟨c, e1, d.fr _ _ e2 (nA e2 fun _ z => codeO_no (o := .dK _) (fun _ z => by cases z) z.symm) (nL e2 fun _ z => codeO_no (o := .lst _) (fun _ z => by cases z) z.symm)⟩
  · exact ⟨g1, g2, ls, cs0, m, t, g3, g4, g5, s.ea, s.el, g8, hl, k2, hm, ht, hn, k6⟩
section
variable {K : PySem.W.Frag} {T : Tb} {S : SA} {E : XK} {te : TE} {FE : DT}
theorem Slots.src {Hb H : Hp} {n : Nat} {ρ : List SV} {σ : L2.St} {i : Nat} (sl : Slots K S Hb H n ρ σ) (e : ρ[i]? = some .st) : σ[i]? = some (some (.ref S.a)) ∧ StOk K S Hb H n := by
  obtain ⟨o, e1, e2, e3⟩ := sl.ok i _ e
  exact ⟨by rw [e1, e2], e3⟩
def isSt (ρ : List SV) (i : Nat) : Prop := ρ[i]? = some .st
/-- state["left"], state["turn"], state["cells"] -/
def xStLeft (i : Nat) : DT := fun ρ n P _ => isSt ρ i ∧ ∀ m : Int, 0 ≤ m → P (.int m) n
def xStTurn (i : Nat) : DT := fun ρ n P _ => isSt ρ i ∧ ∀ t : Nat, t ≤ n → P (.int t) n
def xStCells (cs : List Int) (i : Nat) : DT := fun ρ n P _ => isSt ρ i ∧ ((∀ x ∈ cs, 0 ≤ x) → cs.length ≤ 63 → P (.lst (cs.map D.int)) n)
theorem rd_stLeft {i : Nat} : DL.Rd K T S E (tDGet (tVar i) (tC (.str "left"))) (xStLeft i) := fun σ ρ Hb H n P XP Q w sl h q x => by
  obtain ⟨e, st⟩ := sl.src h.1
  obtain ⟨ga, gl, ls, cs, m, t, _, _, _, e1, e2, _, _, _, k3, _⟩ := st
  exact ⟨_, e, S.a, _, rfl, (StA.mk e1 e2 : StA S H ls m t).getL, q.now w (.int m) (h.2 m k3)⟩
theorem rd_stTurn {i : Nat} : DL.Rd K T S E (tDGet (tVar i) (tC (.str "turn"))) (xStTurn i) := fun σ ρ Hb H n P XP Q w sl h q x => by
  obtain ⟨e, st⟩ := sl.src h.1
  obtain ⟨ga, gl, ls, cs, m, t, _, _, _, e1, e2, _, _, _, _, k4, _⟩ := st
  exact ⟨_, e, S.a, _, rfl, (StA.mk e1 e2 : StA S H ls m t).getT, q.now w (.int t) (h.2 t k4)⟩
theorem rd_stCells {i : Nat} : DL.Rd K T S E (tDGet (tVar i) (tC (.str "cells"))) (xStCells S.cs i) := fun σ ρ Hb H n P XP Q w sl h q x => by
  obtain ⟨e, st⟩ := sl.src h.1
  obtain ⟨ga, gl, ls, cs, m, t, _, _, _, e1, e2, e3, _, k2, _, _, _, k6⟩ := st
  exact ⟨_, e, S.a, _, rfl, (StA.mk e1 e2 : StA S H ls m t).getC, q.now w (.lst (SqL.of e3) (DnA.ints cs)) (by rw [← k6.2] at h; exact h.2 k2 k6.1)⟩
theorem st_step {ρ : List SV} {σ : L2.St} {Hb0 H0 Hb H H' : Hp} {n0 n n' : Nat} {DD : DEn} {D : Ends} (a : Stp K T S Hb0 H0 n0 Hb H n) (sl : Sl0 K S H0 Hb H n ρ σ) (q : EOk K T S Hb0 H0 n0 Hb DD D) (s : Stp K T S Hb H n Hb H' n') (p : DD.nx ρ n') : D.nx σ H' :=
  q.nx ρ σ n' Hb H' (Ex.refl _) (a.trans s) (sl.step s) p
/-- state["left"] = e, state["turn"] = e -/
def xsStLeft (i : Nat) (F : DT) : DTS := fun DD ρ n XP => F ρ n (fun d n1 => isSt ρ i ∧ match d with | .int m => 0 ≤ m ∧ DD.nx ρ n1 | _ => False) XP
def xsStTurn (i : Nat) (F : DT) : DTS := fun DD ρ n XP => F ρ n (fun d n1 => isSt ρ i ∧ match d with | .int m => 0 ≤ m ∧ DD.nx ρ m.toNat | _ => False) XP
theorem rds_stLeft {i : Nat} (h1 : DL.Rd K T S E te FE) : RdS K T S E (sDPut (tVar i) (tC (.str "left")) te) (xsStLeft i FE) := fun σ ρ Hb0 H0 n0 Hb H n DD XP D a sl h q x =>
  h1 σ ρ Hb H n _ XP _ a.wd sl.sl h (fun d v n1 Hb1 H1 s hd p => by
    obtain ⟨es, st⟩ := (sl.step s).sl.src p.1
    obtain ⟨ga, gl, ls, cs, m, t, g3, g4, g5, e1, e2, e3, k1, k2, k3, k4, k5, k6⟩ := id st
    have sA : StA S H1 ls m t := ⟨e1, e2⟩
    cases hd with
    | int m' =>
      refine ⟨_, es, S.a, _, rfl, sA.putL, st_step (a.trans s) (sl.step s) (q.up s.ex) (draw_end s.wd st (Drw.refl H1).setA ⟨upd_same, by rw [upd_ne g5.symm]; exact e2⟩ p.2.1 k1 k5 k4) p.2.2⟩
    | _ => exact p.2.elim) (x.step a)
theorem rds_stTurn {i : Nat} (h1 : DL.Rd K T S E te FE) : RdS K T S E (sDPut (tVar i) (tC (.str "turn")) te) (xsStTurn i FE) := fun σ ρ Hb0 H0 n0 Hb H n DD XP D a sl h q x =>
  h1 σ ρ Hb H n _ XP _ a.wd sl.sl h (fun d v n1 Hb1 H1 s hd p => by
    obtain ⟨es, st⟩ := (sl.step s).sl.src p.1
    obtain ⟨ga, gl, ls, cs, m, t, g3, g4, g5, e1, e2, e3, k1, k2, k3, k4, k5, k6⟩ := id st
    have sA : StA S H1 ls m t := ⟨e1, e2⟩
    cases hd with
    | int m' =>
      have em : m' = ((m'.toNat : Nat) : Int) := by have := p.2.1; omega
      refine ⟨_, es, S.a, _, rfl, sA.putT, st_step (a.trans s) (sl.step s) (q.up s.ex) (draw_end s.wd st (Drw.refl H1).setA (t := m'.toNat) ⟨?_, by rw [upd_ne g5.symm]; exact e2⟩ k3 k1 k5 (Nat.le_refl _)) p.2.2⟩
      rw [upd_same, ← em]
    | _ => exact p.2.elim) (x.step a)
/-- while state["left"] == 0 and state["large"] != []: state["left"] = state["large"].pop(0) -/
def xsLoop (i : Nat) : DTS := fun DD ρ n _ => isSt ρ i ∧ DD.nx ρ n
theorem rds_loop {i : Nat} : RdS K T S E (tWhile (tAnd (tTest (tOp (rEqD K) (tDGet (tVar i) (tC (.str "left"))) (tC (.int 0)))) (tTest (tOp (rNeD K) (tDGet (tVar i) (tC (.str "large"))) (tLst tNil))))
    (sDPut (tVar i) (tC (.str "left")) (tBM K "list" rPopAt (tDGet (tVar i) (tC (.str "large"))) (tCons (tC (.int 0)) tNil)))) (xsLoop i) := fun σ ρ Hb0 H0 n0 Hb H n DD XP D a sl h q x => by
  obtain ⟨es, st⟩ := sl.sl.src h.1
  obtain ⟨ga, gl, ls, cs, m, t, g3, g4, gc3, e1, e2, e3, k1, k2, k3, k4, k5, k6⟩ := id st
  refine ⟨fun k σ' H' => σ' = σ ∧ ∃ ls m, k = ls.length ∧ Drw S H H' ∧ StA S H' ls m t ∧ 0 ≤ m ∧ (∀ x ∈ ls, 0 ≤ x) ∧ ls.length ≤ 63, ⟨_, rfl, ls, m, rfl, .refl H, ⟨e1, e2⟩, k3, k1, k5⟩, ?_⟩
  rintro k σ' H' ⟨rfl, ls, m, rfl, d, sA, hm0, hl, hz⟩
  have fin : ∀ {H' : Hp} {ls : List Int} {m : Int}, Drw S H H' → StA S H' ls m t → 0 ≤ m → (∀ x ∈ ls, 0 ≤ x) → ls.length ≤ 63 → D.nx σ' H' := fun d sA h1 h2 h3 =>
    st_step a sl q (draw_end a.wd st d sA h1 h2 h3 k4) h.2
  by_cases hm1 : m = 0
  · subst hm1
    refine ⟨.ref S.a, es, S.a, .int 0, rfl, sA.getL, .int 0, .int 0, .int 0, .int 0, rfl, rfl, _, rfl, iteT ?_⟩
    refine ⟨.ref S.a, es, S.a, .ref S.l, rfl, sA.getG, Nat.zero_le _, fun p hp => ⟨.list (ls.map PyData.int), .list [], .lst (SqL.of (sA.new hp).el) (ints_dp ls), .lst (SqL.of upd_same) .nil, shaped_ints ls, shaped_nil, _, rfl, ?_⟩⟩
    rw [eqv_nil]
    cases ls with
    | nil => exact fin (d.new hp) (sA.new hp) (Int.le_refl _) (fun _ h => nomatch h) (Nat.zero_le _)
    | cons x r =>
      refine iteT ⟨fun σ2 H2 => σ2 = σ' ∧ Drw S H H2 ∧ StA S H2 r x t, fun σ2 H2 ⟨h1, h2, h3⟩ => ⟨r.length, by simp, h1, r, x, rfl, h2, h3, hl x List.mem_cons_self, fun y hy => hl y (List.mem_cons_of_mem _ hy), by simp at hz; omega⟩, ?_⟩
      have sA' := sA.new (o := .lst []) hp
      refine ⟨.ref S.a, es, S.a, .ref S.l, rfl, sA'.getG, .inl ⟨rfl, _, SqL.of sA'.el⟩, S.l, _, 0, 0, .int x, rfl, rfl, sA'.el, by decide, by decide, ?_, rfl, ?_⟩
      · rw [PySem.seqIndex_of (by decide) (by simp <;> omega)]
        rfl
      · have sB : StA S (upd (upd H' p (.lst [])) S.l (.lst (r.map V.int))) r 0 t := ⟨by rw [upd_ne gc3]; exact sA'.ea, upd_same⟩
        refine ⟨.ref S.a, es, S.a, _, rfl, sB.putL, rfl, ((d.new hp).setL).setA, ⟨upd_same, ?_⟩⟩
        rw [upd_ne gc3.symm]
        exact upd_same
  · have ef : PyData.eqv (.int m) (.int 0) = false := by
      show (m == 0) = false
      simpa using hm1
    refine ⟨.ref S.a, es, S.a, .int m, rfl, sA.getL, .int m, .int 0, .int m, .int 0, rfl, rfl, _, rfl, ?_⟩
    rw [ef]
    exact iteF (fin d sA hm0 hl hz)
end
end DL

/-! an error that is caught, kept and handed back; a lambda handed to such a def -/
namespace DL
open L2 PySem PySem.Spec PyProof.Rows
open Evl (Ex ex_l ex_t sz_of)
section
variable {X : Cx} {pins : List (Addr × Obj)} {σ : L2.St} {H : Hp} {s : Shared}
theorem exT_ok {P : Program} {w : PySem.World} {H : Hp} {h : Heap} {a C : Addr} {d : Option Addr} {oe : Obj} {vs : Array Value} (e : h.get? a = some oe) (z : Zc (.ref C) d oe) (hd : oe.data = .fields vs) : ObjOk P w H h a (ExT C d a) :=
  ⟨⟨oe, vs, e, z, hd⟩, ⟨oe, e⟩, fun _ _ ⟨o, v, q, r⟩ k => ⟨o, v, k o q, r⟩⟩
/-- an object that the entry did not know is tracked from now on -/
theorem adopt {a C : Addr} {d : Option Addr} {oe : Obj} {vs : Array Value} (I : Inv X pins σ H s) (e : s.heap.get? a = some oe) (z : Zc (.ref C) d oe) (hd : oe.data = .fields vs) (na : H a = none) (nL : a ≠ X.env.locals)
    (n0 : X.s_0.heap.get? a = none) (np : ∀ p ∈ X.pn ++ pins, p.1 ≠ a) : Inv X pins σ (upd H a (ExT C d a)) s := by
  have old : ∀ b o, X.s_0.heap.get? b = some o → b ≠ a := fun b o q r => by
    rw [r, n0] at q
    cases q
  have tr : ∀ b o, H b = some o → b ≠ a := fun b o q => ne_of_none q na
  have cel : ∀ x c, X.env.cells.lookup x = some c → c ≠ a := fun x c q r => by
    obtain ⟨v, o, h1, h2⟩ := I.cell x c q
    rw [r, e] at h1
    cases h1
    rw [hd] at h2
    cases h2
  refine ⟨I.ok, I.os, I.bare, ⟨I.base.keep, I.base.slot, ?_, I.base.there, ?_, ?_, ?_⟩, I.loc, I.cell, ?_, ?_, ?_, ?_, I.len⟩
  · intro b o q1 q2 q3
    rw [upd_ne (old b o q1)]
    exact I.base.free b o q1 q2 q3
  · intro b xs q
    have r := I.base.tups b xs q
    rw [upd_ne (tr b _ r)]
    exact r
  · intro b o u q
    have r := I.base.frzs b o u q
    rw [upd_ne (tr b _ r)]
    exact r
  · intro b ps q
    obtain ⟨m, r⟩ := I.base.tbls b ps q
    exact ⟨m, by rw [upd_ne (tr b _ r)]; exact r⟩
  · rw [upd_ne nL.symm]
    exact I.free
  · intro x c q
    rw [upd_ne (cel x c q)]
    exact I.freeC x c q
  · intro p hp
    obtain ⟨h1, h2, h3⟩ := I.pin p hp
    exact ⟨h1, by rw [upd_ne (np p hp)]; exact h2, h3⟩
  · intro b u q
    by_cases hb : b = a
    · rw [hb, upd_same] at q
      cases q
      rw [hb]
      exact exT_ok e z hd
    · rw [upd_ne hb] at q
      refine (I.hok b u q).stay (fun _ _ _ r => r) (fun c r => ?_) fun c xs r => ?_
      · rw [upd_ne (tr c _ r)]
        exact r
      · rw [upd_ne (tr c _ r)]
        exact r
end
/-- what try: .. except x as n: y = n wishes of an error: n in slot i, y in slot j -/
def wKeep (K : PySem.W.Frag) (c : Value) (i j m : Nat) (D : Ends) : WX := fun cls d σ H => ∃ b, PySem.W.exmOne K cls c = some b ∧
  (b = true → ∀ a C, cls = .ref C → H a = none → σ.length = m → ∃ C', cls = .ref C' ∧ D.nx (((σ.set i (some (.ref a))).set j (some (.ref a))).set i none) (upd H a (ExT C' d a))) ∧ (b = false → False) ∧ ∃ C, cls = .ref C
section
variable {X : Cx} {x n y : Str} {c : Value} {i j : Nat} {body : List Stmt} {np p1 p2 p3 pos pos' : Pos} {tb : WX → TS}
theorem ps_try_keep (hs : X.stack = X.env :: X.outer) (hf : X.env.frame = some X.env.locals) (hN : X.N.Nodup) (hi : X.N[i]? = some n) (hln : X.env.kindOf n = some .local) (hj : X.N[j]? = some y) (hly : X.env.scope.names.lookup y = some .local) (hc : Names X x c) (hex : X.ex = []) (hd1 : (n == ("__debug__" : Str)) = false) (hd2 : (n == ("__classdict__" : Str)) = false)
    (hb : ∀ (W : WX) (pn : List (Addr × Obj)) (xe : Value → Shared → Prop), Takes (X.tr pn xe) W → PassesOwn (model X.prog X.w) X.A X.env xe → PSs (X.tr pn xe) body (tb W)) :
    PS X (.Try body [.ExceptHandler (some (.Name x np)) (some n) [.Assign [.Name y p1] (.Name n p2) p3] pos'] [] [] pos) (fun D σ H => tb (wKeep X.K c i j X.N.length D) D σ H) := by
  refine ⟨fun pins s σ H D I h => wpAny_Try_except ?_⟩
  have ok := I.ok
  have hfr : X.A.frames = some (X.env :: X.outer) := ok.frames.trans (congrArg some hs)
  have run := (hb (wKeep X.K c i j X.N.length D) (X.pn ++ pins) (fun e s1 => wpAny (model X.prog X.w) X.A (noteFrame e X.env) (fun _ s2 => wpAny (model X.prog X.w) X.A (setFlight e none) (fun _ s3 =>
    wpAny (model X.prog X.w) X.A (handleBy e X.env [.ExceptHandler (some (.Name x np)) (some n) [.Assign [.Name y p1] (.Name n p2) p3] pos']) (SP X pins D) X.xe s3) X.xe s2) X.xe s1) ?_ PassesOwn.looking).run [] s σ H D (I.toTry _) h
  · refine wpAny_mono run (fun f s1 hsp => ?_) fun _ _ he => he
    -- the body came to its end
    cases f with
    | next =>
      obtain ⟨σ', H', J, q⟩ := hsp
      exact wpAny_execs_nil ⟨σ', H', J.ofTry ok, q⟩
    | brk =>
      obtain ⟨σ', H', J, q⟩ := hsp
      exact ⟨σ', H', J.ofTry ok, q⟩
    | cont =>
      obtain ⟨σ', H', J, q⟩ := hsp
      exact ⟨σ', H', J.ofTry ok, q⟩
    | ret u =>
      obtain ⟨v, σ', H', J, r, q⟩ := hsp
      exact ⟨v, σ', H', J.ofTry ok, r, q⟩
  · -- an error comes
    rintro u s' ⟨a, B, sI, pins', σ', H', cls, d, rfl, J', nb, up, sky, na, os, ag, b, hb1, hyes, hno, C, rfl⟩
    have J : Inv X pins σ' H' sI := J'.ofTry ok
    have hB : B.get? a = none := by
      rcases sky with ⟨_, z, _⟩ | ⟨_, z, _⟩ | ⟨_, z, _⟩ <;> exact z
    have sky' : Sky B (X.env :: X.outer) a (Zc (.ref C) d) X.env.locals s'.heap := hs ▸ sky
    refine Sky.land (env := X.env) Zc.steady hfr hf sky' fun h3 fl3 up3 => ?_
    have J3 : Inv X pins σ' H' { s' with heap := h3 } := J.landed nb fl3.1 (up.trans up3) os ag
    obtain ⟨oe3, vs3, he3, hz3, hd3⟩ := fl3.there
    have nfr : a ∉ frs (X.env :: X.outer) := fun hm => by
      obtain ⟨_, o, e1, e2⟩ := fl3.2.2.1.mem hm
      rw [he3] at e1
      cases e1
      exact e2 _ hd3
    have nL : a ≠ X.env.locals := fun z => nfr (List.mem_filterMap.mpr ⟨X.env, List.mem_cons_self, by rw [hf, z]⟩)
    have nF : a ∉ X.fs := fun hm => by
      obtain ⟨e, he, q⟩ := List.mem_filterMap.mp hm
      exact nfr (List.mem_filterMap.mpr ⟨e, List.mem_cons_of_mem _ he, q⟩)
    -- what stood at the entry is another object
    have inB : ∀ b o, sI.heap.get? b = some o → b ≠ X.env.locals → b ∉ X.fs → b ≠ a := fun b o e1 e2 e3 z => by
      have q := nb b o e1 fun hm => (List.mem_cons.mp (J.stkSub b hm)).elim e2 e3
      rw [z, hB] at q
      cases q
    have n0 : X.s_0.heap.get? a = none := by
      cases q : X.s_0.heap.get? a with
      | none => rfl
      | some o =>
        obtain ⟨o', q'⟩ := J.base.there a o q (by rw [hex]; exact fun z => nomatch z)
        exact absurd rfl (inB a o' q' nL nF)
    have npn : ∀ p ∈ X.pn ++ pins, p.1 ≠ a := fun p hp => by
      obtain ⟨h1, _, h3, h4, _⟩ := J.pin p hp
      exact inB p.1 p.2 h1 h3 h4
    refine wpAny_handleBy_cons (codeAny_handlers_test ?_) (by intro q; cases q)
    have S3 := J3.suite he3 hd3 na nL nF
    have LM := PySem.W.exm_one (M := model X.prog X.w) J3.kIn (fun A Q E s k q => wpAny_typeOf_ref (k _ _ he3) (by rw [hz3.1]; exact q)) hb1
    have goes : wpAny (model X.prog X.w) (X.A.mark (some (.ref a))) (eval (.Name x np) X.env) (fun v s1 => v = c ∧ s1 = { s' with heap := h3 }) (fun _ _ => False) { s' with heap := h3 } := by
      obtain ⟨hg, hdbg, hm | ⟨hm, hv, hnn⟩⟩ := hc
      · exact ld_glob (X := X.suite a ((a, oe3) :: (X.pn ++ pins))) S3 hg hm ⟨rfl, rfl⟩ hdbg
      · exact ld_blt (X := X.suite a ((a, oe3) :: (X.pn ++ pins))) S3 hg hm hv ⟨rfl, rfl⟩ hnn hdbg
    refine wpAny_mono goes (fun v s1 hv => ?_) fun _ _ z => False.elim z
    obtain ⟨e1, e2⟩ := hv
    subst e1
    subst e2
    refine LM.here ?_
    cases b with
    | false => exact (hno rfl).elim
    | true =>
      refine codeAny_handlers_suite_as ?_
      refine HandSPX.lands_againZ fl3 fun h4 fl4 up4 => ?_
      have J4 : Inv X pins σ' H' { s' with heap := h4 } := J.landed nb fl4.1 ((up.trans up3).trans up4) os ag
      obtain ⟨oe4, vs4, he4, hz4, hd4⟩ := fl4.there
      have S4 := J4.suite he4 hd4 na nL nF
      refine store_ok (X := X.suite a ((a, oe4) :: (X.pn ++ pins))) (v := .ref a) S4 hN hi (.inl hln) rfl (fun s5 S5 => ?_) (.inr hln)
      have il : i < σ'.length := by
        rw [J.len]
        exact (List.getElem?_eq_some_iff.mp hi).1
      have asg : PSs (X.suite a ((a, oe4) :: (X.pn ++ pins))) [.Assign [.Name y p1] (.Name n p2) p3] (tAsg (tVar i) (gName j)) :=
        pss_one (ps_set (X := X.suite a ((a, oe4) :: (X.pn ++ pins))) (i := j) hN hj (.inl hly) (pe_var (X := X.suite a ((a, oe4) :: (X.pn ++ pins))) (i := i) hi (.inl hln) hd1 hd2) (hf := .inr hly))
      refine wpAny_mono (asg.run [] s5 _ H' { nx := fun σ6 H6 => σ6 = (σ'.set i (some (.ref a))).set j (some (.ref a)) ∧ H6 = H', rt := fun _ _ => False } S5 ⟨.ref a, List.getElem?_set_self il, rfl, rfl⟩) (fun f s6 hsp => ?_) (fun _ _ z => False.elim z)
      cases f with
      | next =>
        obtain ⟨σ6, H6, S6, rfl, rfl⟩ := hsp
        refine gone_ok (X := X.suite a ((a, oe4) :: (X.pn ++ pins))) S6 hN hi hln fun s7 S7 => ?_
        obtain ⟨e7, _⟩ := S7.pin (a, oe4) (List.mem_append_left _ List.mem_cons_self)
        obtain ⟨C', eC, q⟩ := hyes rfl a C rfl na J.len
        cases eC
        exact ⟨_, _, adopt (S7.unsuite ok) e7 hz4 hd4 na nL n0 npn, q⟩
      | brk =>
        obtain ⟨_, _, _, q⟩ := hsp
        exact False.elim q
      | cont =>
        obtain ⟨_, _, _, q⟩ := hsp
        exact False.elim q
      | ret u =>
        obtain ⟨_, _, _, _, _, q⟩ := hsp
        exact False.elim q
end
end DL

/-! x(lambda: body), x the def that hands back what was caught -/
namespace DL
open L2 PySem PySem.Spec PyProof.Rows
open Evl (Ex ex_l ex_t sz_of)
/-- caught = None; try: work() except S as error: caught = error; return caught -/
def TTc (K : PySem.W.Frag) (CS : Addr) : (XK → Hp → VK → Prop) → Hp → VK → Prop := fun tl H Q =>
  tl (fun cls od H' => ∃ C, cls = .ref C ∧ PySem.W.exmOne K cls (.ref CS) = some true ∧ ∀ a, H' a = none → Q (.ref a) (upd H' a (ExT C od a))) H (fun _ H' => ∃ v, (some (some V.non) : Option (Option V)) = some (some v) ∧ Q v H')
def sCaught : Str := "caught"
def sError : Str := "error"
section
variable {X : Cx}
theorem caught_gives {x e q : Str} {sg : Scope} {g CS : Addr} {cdg : Value} {j1 : Nat} {p0 p1 p2 p3 p4 p5 p6 p7 p8 p9 pa pb pc pd : Pos} (hge : sg.names.lookup e = some .globalImplicit) (hme : X.mg e = some (.ref CS)) (hde : (e == ("__debug__" : Str)) = false)
    (h1 : sg.names.lookup sCaught = some .local) (h2 : sg.names.lookup sError = some .local) :
    LamX.GivesTo X ["work", "caught", "error"] x sg g cdg [.Assign [.Name "caught" p0] (.Constant .none j1 p1) p2,
      .Try [.Expr (.Call (.Name "work" p3) [] [] p4) p5] [.ExceptHandler (some (.Name e p6)) (some "error") [.Assign [.Name "caught" p7] (.Name "error" p8) p9] pa] [] [] pb, .Return (some (.Name "caught" pc)) pd] "work" q (TTc X.K CS) := by
  intro f c' s H Q tl act hc h
  have hgl : Gl (cxOf C8.CX0 X.prog X.w X.K X.mg X.base ["work", "caught", "error"] x sg g cdg X.A X.stack s H C8.E0).nox e := hge
  have nd : (["work", "caught", "error"] : List Str).Nodup := by decide +kernel
  refine ⟨_, pss_cons (ps_set (X := (cxOf C8.CX0 X.prog X.w X.K X.mg X.base ["work", "caught", "error"] x sg g cdg X.A X.stack s H C8.E0).nox) (i := 1) nd rfl (.inl h1) pe_non (hf := .inr h1))
    (pss_cons (ps_try_keep (X := (cxOf C8.CX0 X.prog X.w X.K X.mg X.base ["work", "caught", "error"] x sg g cdg X.A X.stack s H C8.E0).nox) (i := 2) (j := 1) (c := .ref CS)
      (tb := fun W D σ H => ∃ Ech : XK, (∀ cls d σ' H', Ech cls d H' → W cls d σ' H') ∧ σ[0]? = some (some (.ref f)) ∧ H c' = some (LamX.CodeO c' q) ∧ tl Ech H (fun _ H' => D.nx σ H'))
      rfl rfl nd rfl h2 rfl h1 ⟨hgl, hde, .inl hme⟩ rfl (by decide) (by decide) (fun W pn xe tk _ => ?_))
    (pss_one (ps_ret (pe_var (X := (cxOf C8.CX0 X.prog X.w X.K X.mg X.base ["work", "caught", "error"] x sg g cdg X.A X.stack s H C8.E0).nox) (i := 1) rfl (.inl h1))))), ?_⟩
  · refine ⟨fun pins s' σ H' D I h' => ?_⟩
    obtain ⟨Ech, hW, g1, g2, g3⟩ := h'
    exact (pss_one (ps_expr (act W pn xe Ech _ _ tk hW))).run pins s' σ H' D I ⟨g1, g2, g3⟩
  · refine ⟨fun cls od H' => ∃ C, cls = .ref C ∧ PySem.W.exmOne X.K cls (.ref CS) = some true ∧ ∀ a, H' a = none → Q (.ref a) (upd H' a (ExT C od a)), fun cls od σ' H' hx => ?_, rfl, hc, h⟩
    obtain ⟨C, rfl, em, hq⟩ := hx
    refine ⟨true, em, fun _ a C2 e2 na hl => ⟨C, rfl, ?_⟩, (fun z => nomatch z), C, rfl⟩
    refine ⟨.ref a, ?_, hq a na⟩
    have l3 : σ'.length = 3 := hl
    rw [List.getElem?_set_ne (by decide), List.getElem?_set_self (by rw [List.length_set, l3]; decide)]
end
/-- what is known of the class of an error that the program may raise -/
structure ErrC (K : PySem.W.Frag) (CS C : Addr) : Prop where
  ec : ExcC K C
  nt : NoTy K C
  em : PySem.W.exmOne K (.ref C) (.ref CS) = some true
section
variable {K : PySem.W.Frag} {T : Tb} {S : SA} {E : XK}
def xLam (K : PySem.W.Frag) (CS : Addr) (F : DT) : DT := fun ρ n P _ => F ρ n (fun _ n1 => P .non n1) (fun C ns ds n1 => ErrC K CS C ∧ P (.exc C ns ds) n1)
/-- all but the tables stays: a step of ours -/
theorem Stp.lam {Hb H H1 : Hp} {n : Nat} (w : World T S Hb H) (e : LamX.ExtN H H1) (t : LamX.Tabs T H1) : Stp K T S Hb H n Hb H1 n := by
  have k : ∀ b o, H b = some o → (∀ ps, o ≠ .tbl ps) → H1 b = some o := e
  have kO : ∀ {b : Addr}, Obn H b → Obn H1 b := fun ⟨o, h, ho⟩ => ⟨o, k _ _ h ho, ho⟩
  refine ⟨Ex.refl _, ⟨fun b o q => k b o (w.ex b o q) (fun ps z => by subst z; exact w.nt b ps q), t, w.tb, kO w.sa, kO w.sl, kO w.sc, w.nt⟩, fun h0 => ?_, fun b o e1 e2 _ _ e5 => ⟨k b o e1 e5, e2⟩, fun b f o h => ?_⟩
  · obtain ⟨g1, g2, ls, cs, m, t, g3, g4, g5, g6, g7, g8, rest⟩ := h0
    exact ⟨g1, g2, ls, cs, m, t, g3, g4, g5, k _ _ g6 (fun _ z => by cases z), k _ _ g7 (fun _ z => by cases z), g8, rest⟩
  · by_cases ht : ∃ ps, o = .tbl ps
    · exact ht
    · exact f o (k b o h fun ps z => ht ⟨ps, z⟩)
theorem rd_lam {CS : Addr} {te : XK → TE} {F : DT} (h : ∀ E, DL.Rd K T S E (te E) F) : DL.Rd K T S E (LamX.tLam T (TTc K CS) te) (xLam K CS F) := fun σ ρ Hb H n P XP Q w sl hf q x => by
  refine ⟨w.tabs, fun H1 eN T1 => ?_⟩
  have s : Stp K T S Hb H n Hb H1 n := .lam w eN T1
  refine h _ σ ρ Hb H1 n _ _ _ s.wd (sl.step s) hf (fun d v n2 Hb2 H2 s2 hv p => ⟨.non, rfl, q .non _ n2 Hb2 H2 (s.trans s2) .non p⟩) fun C ns ds n2 od Hb2 H2 s2 hx p => ?_
  obtain ⟨ec, p⟩ := p
  refine ⟨C, rfl, ec.em, fun a na => (q.step (s.trans s2)).new s2.wd na ?_ p⟩
  obtain ⟨fs, h0, h1, h2⟩ := hx
  have eb := Ex.new (o := ExT C od a) (free_of s2.wd.ex na)
  refine .exc ec.ec ec.nt upd_same ?_ h1 (h2.up eb)
  rcases h0 with h0 | ⟨dd, h0, hne, h3⟩
  · exact .inl h0
  · exact .inr ⟨dd, h0, hne, eb _ _ h3⟩
end
end DL

/-! promises that ask for a frame in which nothing is being shown -/
namespace DL
open L2 PySem PySem.Spec PyProof.Rows
open Evl (Ex ex_l ex_t sz_of)
/-- what a def promises where no repr is under way -/
structure FnG (P : Program) (w : PySem.World) (K : PySem.W.Frag) (mg : Str → Option Value) (base : Heap) (CX : CXT) (k : Nat) (f : Addr) (fd : FuncData) (ps : List Str) (sp : Sp) : Prop where
  many : ∀ vs H Q E, sp vs H Q E → vs.length = ps.length
  goes : ∀ (A : Around), A.guards = some [] → Room k A → ∀ (out : List Env) (s : Shared) (H : Hp) (args : PySem.Args) (us : List Value) (vs : List V) (Q : VK) (E : XK), sp vs H Q E → Vals vs us → BindsTo s fd args (ps.zip us) → Env0 P w K mg base A out s H →
    codeAny (model P w) A (.call (.ref f) args) (CR CX out P w H s Q E) s
section
variable {P : Program} {w : PySem.World} {K : PySem.W.Frag} {mg : Str → Option Value} {base : Heap} {CX : CXT} {j k : Nat} {f : Addr} {fd : FuncData} {ps : List Str} {sp : Sp}
theorem FnG.of (F : FnOk P w K mg base CX k f fd ps sp) : FnG P w K mg base CX k f fd ps sp :=
  ⟨F.len, fun A _ hr out s H args us vs Q E h r b e => F.run A out s H args us vs Q E hr e b r h⟩
theorem FnG.mono (F : FnG P w K mg base CX j f fd ps sp) (h : j ≤ k) : FnG P w K mg base CX k f fd ps sp :=
  ⟨F.many, fun A g hr => F.goes A g (hr.mono h)⟩
end
section
variable {X : Cx} {CX : CXT} {k : Nat} {f : Addr} {fd : FuncData} {ps : List Str} {ds : List Value} {dvs : List V} {sp : Sp} {E : XK} {x : Str} {p pos : Pos} {e : Expr} {es : List Expr} {t : TA}
end
section
variable {P : Program} {w : PySem.World} {K : PySem.W.Frag} {T : Tb} {mg : Str → Option Value} {base : Heap}
end
end DL

/-! the end of a law that shows what it saw -/
namespace DL
open L2 PySem PySem.Spec PyProof.Rows LamX
/-- what the walk knows at the entry: empty tables ts, the script at a where the frame has it not -/
def begH (K : PySem.W.Frag) (ts : List Addr) (a : Addr) (ob : Obj) (u : HO) : Hp := fun b => if b ∈ ts then some (.tbl #[]) else if b = a ∧ K.lookup a = none then some (.frz ob u) else none
section
variable {K : PySem.W.Frag} {ts : List Addr} {a b : Addr} {ob : Obj} {u : HO}
theorem begH_t (h : b ∈ ts) : begH K ts a ob u b = some (.tbl #[]) := if_pos h
theorem begH_a (h : a ∉ ts) (k : K.lookup a = none) : begH K ts a ob u a = some (.frz ob u) := by
  unfold begH
  rw [if_neg h, if_pos ⟨rfl, k⟩]
theorem begH_inv {o : HO} (h : begH K ts a ob u b = some o) : (b ∈ ts ∧ o = .tbl #[]) ∨ (b ∉ ts ∧ b = a ∧ K.lookup a = none ∧ o = .frz ob u) := by
  unfold begH at h
  split at h
  · rename_i m
    exact .inl ⟨m, (Option.some.inj h).symm⟩
  · rename_i m
    split at h
    · rename_i q
      exact .inr ⟨m, q.1, q.2, (Option.some.inj h).symm⟩
    · cases h
theorem begH_n (h1 : b ∉ ts) (h2 : b = a → K.lookup a = none → False) : begH K ts a ob u b = none := by
  cases h : begH K ts a ob u b with
  | none => rfl
  | some o =>
    rcases begH_inv h with ⟨m, _⟩ | ⟨_, e, k, _⟩
    · exact (h1 m).elim
    · exact (h2 e k).elim
end
section
variable {P : Program} {w : PySem.World} {K : PySem.W.Frag} {mg mb : Str → Option Value} {CX : CXT} {k : Nat} {fa a : Addr} {cs : List (Addr × Addr)} {fd : FuncData} {x : Str} {sp : Sp} {s : Shared} {vs : List Value} {ns : List Int}
theorem end_call (KX : K.In s.heap) (gl : s.heap.Ns mainGlobals mg) (bl : s.heap.Ns builtinsNs mb) (bb : ∀ x : Str, x ≠ "__name__" → mb x = bootBuiltins x) (nl : s.heap.NoLimit) (ng : s.gens = #[])
    (hT : ∀ p ∈ cs, s.heap.get? p.2 = some { cls := .none, data := .fields #[] }) (nT : ∀ p ∈ cs, K.lookup p.2 = none) (hC : ∀ p ∈ cs, PySem.W.CodeHd s.heap p.1 p.2)
    (bm : ∃ (m : Addr) (o : Obj), mg "__builtins__" = some (.ref m) ∧ m ≠ builtinsNs ∧ s.heap.get? m = some o ∧ o.cls = .type "module" ∧ o.dict = some builtinsNs ∧ o.data = .plain)
    (ha : s.heap.get? a = some { cls := .type "list", data := .seq vs.toArray }) (hi : IntsAre vs ns) (hl : ns.length ≤ sizeLine) (hr : Room k callerA)
    (F : ∀ base : Heap, K.In base → base.Ns mainGlobals mg → (∀ p ∈ cs, TabB base mg p.1 p.2) → FnG P w K mg base CX k fa fd [x] sp) (hbind : ∀ (s : Shared) (u : Value), BindsTo s fd ⟨[u], []⟩ [(x, u)])
    (hsp : ∀ H : Hp, (∀ p ∈ cs, H p.2 = some (.tbl #[])) → SqL K H a (ns.map V.int) → sp [.ref a] H (fun v _ => v = .bl true) fun _ _ _ => False)
    (hX : ∀ H e s', CX [] H s (fun _ _ _ => False) e s' → False) :
    codeAny (model P w) callerA (.call (.ref fa) ⟨[.ref a], []⟩) (fun r s' => r = .ok (.ret (.bool true)) ∧ OldK s.heap s'.heap ∧ s'.os = s.os ∧ AllBare s'.gens) s := by
  have hv := vals_ints hi
  have hn : vs.length = ns.length := hi.length
  have seen : ∀ b ∈ cs.map (·.2), s.heap.get? b = some { cls := .none, data := .fields #[] } ∧ K.lookup b = none := fun b m => by
    obtain ⟨p, hp, rfl⟩ := List.mem_map.mp m
    exact ⟨hT p hp, nT p hp⟩
  have na : a ∉ cs.map (·.2) := fun m => by
    have z := (seen a m).1
    rw [ha] at z
    injection z with z
    injection z with _ _ z
    cases z
  have here : ∀ p ∈ cs, p.2 ∈ cs.map (·.2) := fun p hp => List.mem_map.mpr ⟨p, hp, rfl⟩
  let H : Hp := begH K (cs.map (·.2)) a { cls := .type "list", data := .seq vs.toArray } (.lst (ns.map V.int))
  have HT : ∀ p ∈ cs, H p.2 = some (.tbl #[]) := fun p hp => begH_t (here p hp)
  have HS : SqL K H a (ns.map V.int) := by
    cases q : K.lookup a with
    | none => exact .inl (.inr ⟨_, begH_a na q⟩)
    | some o =>
      have z := KX a o q
      rw [ha] at z
      cases z
      exact .inr ⟨_, vs.toArray, _, q, rfl, rfl, rfl, by simpa [hn] using hl, by simpa using hv⟩
  have HO : HOk P w H s.heap := fun b o h => by
    rcases begH_inv h with ⟨m, rfl⟩ | ⟨_, rfl, _, rfl⟩
    · exact (seen b m).1
    · exact ⟨ha, by simpa using hl, vs, _, hv, ha⟩
  -- an object of another form is not tracked
  have apart : ∀ {b : Addr} {o : Obj}, s.heap.get? b = some o → o.data ≠ .seq vs.toArray → o.data ≠ .fields #[] → H b = none := fun {b o} e h1 h2 => begH_n (fun m => by
    have z := (seen b m).1
    rw [e] at z
    cases z
    exact h2 rfl) fun r _ => by
      subst r
      rw [ha] at e
      cases e
      exact h1 rfl
  have space : ∀ {b : Addr} {m : Str → Option Value}, s.heap.Ns b m → (hidT s.heap H).Ns b m := fun {b m} ⟨o, es, ep, e, d, r⟩ => ⟨o, es, ep, hidT_get e (apart e (by rw [d]; exact fun z => by cases z) (by rw [d]; exact fun z => by cases z)), d, r⟩
  have kin : K.In (hidT s.heap H) := fun b o e => hidT_get (KX b o e) (begH_n (fun m => by rw [(seen b m).2] at e; cases e) fun r q => by rw [r, q] at e; cases e)
  have md : L2.Mod K mg (hidT s.heap H) := ⟨kin, space gl, ⟨mb, space bl, bb⟩, nl.imp fun c h => ⟨space h.1, h.2⟩⟩
  have glD : ∃ o es ep, s.heap.get? mainGlobals = some o ∧ o.data = .dict es ep := by
    obtain ⟨o, es, ep, e, d, _⟩ := gl
    exact ⟨o, es, ep, e, d⟩
  have tb : ∀ p ∈ cs, TabB (hidT s.heap H) mg p.1 p.2 := fun p hp => by
    obtain ⟨og, es, ep, eg, dg⟩ := glD
    refine ⟨?_, ?_, fun z => by rw [z, hT p hp] at eg; cases eg; cases dg⟩
    · obtain ⟨o, us, f, tf, fl, tg, iF, tx, tt, e, c1, c2, c3, rest⟩ := hC p hp
      refine ⟨o, us, f, tf, fl, tg, iF, tx, tt, hidT_get e (apart e (by rw [c2]; exact fun z => by cases z) ?_), c1, c2, c3, rest⟩
      rw [c2]
      intro z
      cases z
      simp at c3
    · obtain ⟨m, o, b1, b2, b3, b4, b5, b6⟩ := bm
      refine ⟨m, o, b1, b2, fun z => ?_, fun z => ?_, hidT_get b3 (apart b3 (by rw [b6]; exact fun z => by cases z) (by rw [b6]; exact fun z => by cases z)), b4, b5, b6⟩
      · rw [z, eg] at b3
        cases b3
        rw [dg] at b6
        cases b6
      · rw [z, hT p hp] at b3
        cases b3
        cases b6
  have e0 : Env0 P w K mg (hidT s.heap H) callerA [] s H := {
    frames := rfl
    mod := md
    bs := fun b o e => of_hidT e
    bsz := Nat.le_of_eq (hidT_size _ _)
    funs := trivial
    frf := fun b m => absurd m (by show b ∉ ([] : List Addr); simp)
    hok := HO
    bare := .of_eq ng }
  refine codeAny_mono ((F _ kin (space gl) tb).goes callerA rfl hr [] s H ⟨[.ref a], []⟩ [.ref a] [.ref a] _ _ (hsp H HT HS) (.cons rfl .nil) (hbind s (.ref a)) e0) ?_
  rintro (e | fl) s2 h
  · exact (hX H e s2 h).elim
  · cases fl with
    | ret u =>
      obtain ⟨v, H2, os, bare, un, ok2, rv, rfl⟩ := h
      have eu : u = Value.bool true := rv
      subst eu
      have rest : ∀ b o, b ∉ cs.map (·.2) → s.heap.get? b = some o → s2.heap.get? b = some o := fun b o m e => by
        cases q : H b with
        | none => exact un.keep b o e q (by show b ∉ ([] : List Addr); simp) (by simp)
        | some y =>
          rcases begH_inv q with ⟨m2, _⟩ | ⟨_, rfl, _, rfl⟩
          · exact (m m2).elim
          · rw [ha] at e
            cases e
            exact (ok2 _ _ (un.frzs _ _ _ q)).1
      have tabs : ∀ p ∈ cs, ∃ more : Array Value, s2.heap.get? p.2 = some { cls := .none, data := .fields (#[] ++ more) } := fun p hp => (un.tbls p.2 #[] (HT p hp)).imp fun more z => ok2 p.2 (.tbl (#[] ++ more)) z
      refine ⟨rfl, ⟨fun b o e => ?_, fun b o e => ?_⟩, os, bare⟩ <;> by_cases m : b ∈ cs.map (·.2)
      · obtain ⟨p, hp, rfl⟩ := List.mem_map.mp m
        obtain ⟨more, z⟩ := tabs p hp
        rw [hT p hp] at e
        cases e
        exact .inr (.inl ⟨((hC p hp).tab (hT p hp)).isCodeTable, rfl, #[], more, rfl, z⟩)
      · exact .inl (rest b o m e)
      · obtain ⟨p, hp, rfl⟩ := List.mem_map.mp m
        exact (tabs p hp).elim fun _ z => ⟨_, z⟩
      · exact ⟨o, rest b o m e⟩
    | _ => exact False.elim h
/-- what is known of the law's promise at the head's heap h -/
def LawG (l : PySem.W.OpenLaw) (w : PySem.World) (K : PySem.W.Frag) (CX : CXT) (k n : Nat) (x : Str) (mg : Str → Option Value) (fa : Addr) (h : Heap) : Prop :=
  ∃ (cs : List (Addr × Addr)) (fd : FuncData) (sp : Sp), ((∀ p ∈ cs, h.get? p.2 = some { cls := .none, data := .fields #[] }) ∧ (∀ p ∈ cs, PySem.W.CodeHd h p.1 p.2) ∧ ∀ p ∈ cs, K.lookup p.2 = none) ∧
    (∀ base : Heap, K.In base → base.Ns mainGlobals mg → (∀ p ∈ cs, TabB base mg p.1 p.2) → FnG l.prog w K mg base CX k fa fd [x] sp) ∧ (∀ (s : Shared) (u : Value), BindsTo s fd ⟨[u], []⟩ [(x, u)]) ∧
    ∀ (H : Hp) (a : Addr) (ns : List Int), ns.length ≤ n → (∀ z ∈ ns, Builtin.Int.intBits z ≤ 1048576) → (∀ p ∈ cs, H p.2 = some (.tbl #[])) → SqL K H a (ns.map V.int) → sp [.ref a] H (fun v _ => v = .bl true) fun _ _ _ => False
end
end DL

/-! objects that are made: __init__ and its caller -/
namespace DL
open L2 PySem PySem.Spec PyProof.Rows
open Evl (Ex ex_l ex_t sz_of)
def noMe : List SV → Bool
  | [] => true
  | .me _ _ _ _ :: _ => false
  | _ :: ss => noMe ss
theorem noMe_get : ∀ {ρ : List SV} {i : Nat} {x C : Addr} {ns : List Str} {ds : List D}, noMe ρ = true → ρ[i]? ≠ some (.me x C ns ds)
  | [], i, x, C, ns, ds, _ => by simp
  | s :: ss, 0, x, C, ns, ds, h => by
    intro e
    simp at e
    subst e
    exact absurd h (by simp [noMe])
  | s :: ss, i + 1, x, C, ns, ds, h => by
    have h' : noMe ss = true := by cases s <;> first | exact h | (exact absurd h (by simp [noMe]))
    simpa using noMe_get (i := i) h'
def meD (ρ : List SV) (k : Addr → Addr → List Str → List D → List SV → Prop) : Prop := match ρ with
  | .me x C ns ds :: r => k x C ns ds r
  | _ => False
def xsMe (K : PySem.W.Frag) (f : Str) (F : DT) : DTS := fun DD ρ n XP => F ρ n (fun d n1 => meD ρ fun x C ns ds r => noMe r = true ∧ Cls K C ∧ NoAttr K C f ∧ ns.length < 900 ∧ ns.contains f = false ∧ DD.nx (.me x C (ns ++ [f]) (ds ++ [d]) :: r) n1) XP
theorem putF_new {f : Str} {v : V} : ∀ {fs : List (Str × V)}, (fs.map (·.1)).contains f = false → (putF f v fs) = fs ++ [(f, v)]
  | [], _ => rfl
  | (g, y) :: fs, h => by
    have h0 : ((g :: fs.map (·.1)).contains f) = false := h
    rw [List.contains_cons, Bool.or_eq_false_iff] at h0
    have hg : ¬ g = f := fun e => by
      rw [e] at h0
      simp at h0
    show (if g = f then (g, v) :: fs else (g, y) :: putF f v fs) = _
    rw [if_neg hg, putF_new h0.2]
    rfl
section
variable {K : PySem.W.Frag} {T : Tb} {S : SA} {E : XK} {Hb H Hb1 H1 : Hp} {n n1 : Nat} {te : TE} {FE : DT} {ta : TA} {G : DTA}
/-- an object of one's own is rewritten -/
theorem World.put {p : Addr} {o u : HO} (w : World T S Hb H) (h1 : H p = some o) (h2 : Hb p = none) (nt : ∀ ps, o ≠ .tbl ps) (nx : ∀ φ, o ≠ .ext φ) (nu : ∀ ps, u ≠ .tbl ps) : World T S Hb (upd H p u) := by
  refine ⟨fun b y e => by rw [upd_ne (fun z => by rw [z, h2] at e; cases e)]; exact w.ex b y e, fun q hq => ?_, w.tb, w.sa.upd nu, w.sl.upd nu, w.sc.upd nu, w.nt⟩
  obtain ⟨ps, e, t1, t2⟩ := w.tabs q hq
  refine ⟨ps, by rw [upd_ne (fun z => by rw [z, h1] at e; exact nt _ (Option.some.inj e))]; exact e, t1, fun pos cv hcv => ?_⟩
  obtain ⟨c, e1, e2⟩ := t2 pos cv hcv
  exact ⟨c, e1, by rw [upd_ne (fun z => by rw [z, h1] at e2; exact codeO_no nx (Option.some.inj e2))]; exact e2⟩
theorem rds_fldM {f : Str} (h1 : DL.Rd K T S E te FE) : RdS K T S E (sFld K (tVar 0) te f) (xsMe K f FE) := fun σ ρ Hb0 H0 n0 Hb H n DD XP D a sl h q x => by
  refine h1 σ ρ Hb H n _ XP _ a.wd sl.sl h (fun d v n1 Hb1 H1 s hd pp => ?_) (x.step a)
  cases ρ with
  | nil => exact pp.elim
  | cons s0 r =>
    cases s0 with
    | me y C ns ds =>
      obtain ⟨nm, hc, ha, hl, hf, pp⟩ := pp
      have sl1 := sl.step s
      obtain ⟨o, e1, rfl, dx, fs, g1, g2, g3, g4, g5, g6, g7⟩ := sl1.sl.ok 0 _ rfl
      subst g6
      have f0 : Fresh H0 y := sl1.fr 0 _ y rfl rfl e1
      have ht : ∀ ps, HO.ins C dx fs ≠ .tbl ps := fun ps z => by cases z
      have hx : ∀ φ, HO.ins C dx fs ≠ .ext φ := fun ps z => by cases z
      have nu : ∀ ps, HO.ins C dx (putF f v fs) ≠ .tbl ps := fun ps z => by cases z
      have as := a.trans s
      refine ⟨.ref y, e1, y, C, dx, fs, rfl, g1, hc, ha, by rw [List.length_map] at hl; omega, ?_⟩
      have keep : ∀ {b : Addr} {o : HO}, H1 b = some o → b ≠ y → upd H1 y (.ins C dx (putF f v fs)) b = some o := fun e hb => by rw [upd_ne hb]; exact e
      refine q.nx (.me y C (fs.map (·.1) ++ [f]) (ds ++ [d]) :: r) _ n1 Hb1 _ s.ex ⟨as.ex, as.wd.put g1 g2 ht hx nu, fun h0 => ?_, fun b o e1 e2 e3 e4 e5 => ?_, fun b e => as.dm b (dm_upd nu b e)⟩ ⟨⟨sl1.sl.len, fun j t ej => ?_, fun j k p xs ys jk ej ek sj sk => ?_⟩, fun j t p ej eo sj => ?_⟩ pp
      · obtain ⟨k1, k2, ls, cs, m, t, k3, k4, k5, k6, k7, k8, rest⟩ := as.st h0
        exact ⟨k1, k2, ls, cs, m, t, k3, k4, k5, keep k6 g3.symm, keep k7 g4.symm, k8, rest⟩
      · have hb : b ≠ y := f0.ne e1 e5
        rw [upd_ne hb]
        exact as.own b o e1 e2 e3 e4 e5
      · cases j with
        | zero =>
          cases ej
          refine ⟨_, e1, rfl, dx, _, upd_same, g2, g3, g4, g5, ?_, ?_⟩
          · rw [putF_new hf]
            simp
          · rw [putF_new hf]
            simpa using g7.app (.one hd)
        | succ j =>
          have ej' : (SV.me y C (fs.map (·.1)) ds :: r)[j + 1]? = some t := ej
          have ejr : r[j]? = some t := ej
          obtain ⟨o, k1, k2⟩ := sl1.sl.ok (j + 1) t ej'
          refine ⟨o, k1, ?_⟩
          cases t with
          | no => trivial
          | d x => exact k2
          | st =>
            obtain ⟨k3, m1, m2, ls, cs, m, t, m3, m4, m5, m6, m7, m8, rest⟩ := k2
            exact ⟨k3, m1, m2, ls, cs, m, t, m3, m4, m5, keep m6 g3.symm, keep m7 g4.symm, m8, rest⟩
          | ol zs =>
            obtain ⟨p, ws, k3, k4, rest⟩ := k2
            exact ⟨p, ws, k3, keep k4 (fun z => by rw [z, g1] at k4; cases k4), rest⟩
          | me _ _ _ _ => exact absurd ejr (noMe_get nm)
          | od ks zs =>
            obtain ⟨p, kvs, k3, k4, rest⟩ := k2
            exact ⟨p, kvs, k3, keep k4 (fun z => by rw [z, g1] at k4; cases k4), rest⟩
          | ot ks zs =>
            obtain ⟨p, kvs, k3, k4, rest⟩ := k2
            exact ⟨p, kvs, k3, keep k4 (fun z => by rw [z, g1] at k4; cases k4), rest⟩
          | fv F =>
            obtain ⟨f', c', k3, k4, k5, rest⟩ := k2
            exact ⟨f', c', k3, k4, keep k5 (fun z => by rw [z, g1] at k5; exact codeO_no (o := .ins C dx fs) (fun _ z => by cases z) (Option.some.inj k5)), rest⟩
      · cases j with
        | zero => cases ej
        | succ j =>
          cases k with
          | zero => cases ek
          | succ k => exact sl1.sl.ap (j + 1) (k + 1) p xs ys jk ej ek sj sk
      · cases j with
        | zero =>
          have z : p = y := by
            rw [e1] at sj
            exact (V.ref.inj (Option.some.inj (Option.some.inj sj))).symm
          rw [z]
          exact f0
        | succ j => exact sl1.fr (j + 1) t p ej eo sj
    | _ => exact pp.elim

/-! ### __init__ -/
abbrev DSI := List SV → Nat → (List Str → List D → Nat → Prop) → DX → Prop
def spI (K : PySem.W.Frag) (T : Tb) (C : Addr) (DS : DSI) : Sp := fun vs H Q E => ∃ S Hb H1 n x dx ss us P XP, vs = .ref x :: us ∧ H = upd (upd H1 dx (.own x)) x (.ins C dx []) ∧ H1 x = none ∧ H1 dx = none ∧ dx ≠ x ∧ World T S Hb H1 ∧ Args K S Hb H1 n ss us ∧ (noOl ss = true ∧ DS ss n P XP) ∧
  (∀ ns ds dy fs n' Hb' H', Stp K T S Hb H1 n Hb' H' n' → H' x = some (.ins C dy fs) → Hb' x = none → fs.map (·.1) = ns → DnA K Hb' (fs.map (·.2)) ds → P ns ds n' → Q .non H') ∧ XOk K T S Hb H1 n XP E
theorem noL_me {ss : List SV} {x C : Addr} {ns : List Str} {ds : List D} (h : noOl ss = true) : noL (.me x C ns ds :: ss) = true := by
  have z : noL ss = true := noL_of h
  exact z
variable {P : Program} {w : PySem.World} {mg : Str → Option Value} {base : Heap}
theorem okI {x qual : Str} {st : Stmt} {f C : Addr} {fd : FuncData} {N ps : List Str} {k : Nat} {DS : DSI} (F : Fun K x qual st f fd) (Sc : FnScope N ps (defScope st)) (len : ∀ ss n P XP, DS ss n P XP → ss.length + 1 = ps.length)
    (hb : ∀ (S : SA) (cdv : Value) (A : Around) (outer : List Env) (s : Shared) (H : Hp) (E : XK), Room k (A.deeper (envOfC qual (defScope st) s.heap.objs.size f cdv)) →
      ∃ ts G, PSs (cxOf (L2.CX P w) P w K mg base N qual (defScope st) f cdv A outer s H E) (defBody st) ts ∧ RdS K T S E ts G ∧ ∀ y ss n P XP, DS ss n P XP → G { nx := fun ρ n => meD ρ fun y' C' ns ds _ => y' = y ∧ C' = C ∧ P ns ds n, rt := fun _ _ => False } (startS N (.me y C [] [] :: ss)) n XP) :
    FnOk P w K mg base (L2.CX P w) (k + 1) f fd ps (spI K T C DS) := by
  refine F.okX Sc (fun vs H Q E h => ?_) (fun cdv A outer s H vs Q E hr h => ?_)
  · obtain ⟨S, Hb, H1, n, y, dx, ss, us, P, XP, rfl, _, _, _, _, _, ha, ⟨_, hd⟩, _⟩ := h
    rw [List.length_cons, ← ha.len]
    exact len ss n P XP hd
  · obtain ⟨S, Hb, H1, n, y, dx, ss, us, P, XP, rfl, rfl, hy, hdx, ne, wd, ha, ⟨ho, hd⟩, q, x⟩ := h
    obtain ⟨ts, G, h1, h2, h3⟩ := hb S cdv A outer s _ E hr
    have s1 : Stp K T S Hb H1 n Hb (upd H1 dx (.own y)) n := .newO wd hdx
    have s2 : Stp K T S Hb H1 n Hb (upd (upd H1 dx (.own y)) y (.ins C dx [])) n := s1.trans (.newO s1.wd (by rw [upd_ne ne.symm]; exact hy))
    obtain ⟨n1, n2, n3⟩ := wd.nS (fresh_none hy)
    have hby : Hb y = none := free_of wd.ex hy
    refine ⟨ts, h1, h2 _ _ Hb H1 n Hb _ n _ XP _ s2 ⟨.start (ss := .me y C [] [] :: ss) (.cons (s := .me y C [] []) ⟨rfl, dx, [], upd_same, hby, n1, n2, n3, rfl, .nil⟩ (ha.step s2)) (noL_me ho), fun i t p ei eo sp => ?_⟩ (h3 y ss n P XP hd) ⟨fun ρ σ n' Hb' H' _ st sl p => ?_, fun _ _ _ _ _ _ _ p => p.elim, fun _ _ _ _ _ _ _ _ p => p.elim, fun _ _ _ _ _ _ _ _ p => p.elim⟩ x⟩
    · rcases start_cases ei with ei | rfl
      · cases i with
        | zero =>
          have z : p = y := by
            have z : (some (some (V.ref y)) : Option (Option V)) = some (some (.ref p)) := sp
            exact (V.ref.inj (Option.some.inj (Option.some.inj z))).symm
          rw [z]
          exact fresh_none hy
        | succ i =>
          rw [noOl_get ho ei] at eo
          cases eo
      · cases eo
    · cases ρ with
      | nil => exact p.elim
      | cons s0 r =>
        cases s0 with
        | me y' C' ns ds =>
          obtain ⟨rfl, rfl, p⟩ := p
          obtain ⟨o, e1, rfl, dy, fs, g1, g2, g3, g4, g5, g6, g7⟩ := sl.sl.ok 0 _ rfl
          exact q ns ds dy fs n' Hb' H' st g1 g2 g6 g7 p
        | _ => exact p.elim

/-! ### the caller -/
def xMake (K : PySem.W.Frag) (C : Addr) (DS : DSI) (G : DTA) : DT := fun ρ n P XP => G ρ n (fun ss n1 => InC K C ∧ noOl ss = true ∧ DS ss n1 (fun ns ds n2 => P (.ins C ns ds) n2) XP) XP
theorem made {C : Addr} {P : DQ} {Q : VK} {x dy : Addr} {fs : List (Str × V)} {ns : List Str} {ds : List D} (s : Stp K T S Hb H n Hb1 H1 n1) (ic : InC K C) (q : VOk K T S Hb H n P Q) (hx : H x = none) (e1 : H1 x = some (.ins C dy fs)) (e2 : Hb1 x = none) (e3 : fs.map (·.1) = ns) (e4 : DnA K Hb1 (fs.map (·.2)) ds) (w : World T S Hb H) (pp : P (.ins C ns ds) n1) : Q (.ref x) H1 := by
  obtain ⟨m1, m2, m3⟩ := w.nS (fresh_none hx)
  have z := s.freeze (o := .ins C dy fs) (fresh_none hx) e2 (by rw [e1]; exact fun z => by cases z) (fun ps z => by rw [e1] at z; cases z) (fun c u z => by rw [e1] at z; exact codeO_no (o := .ins C dy fs) (fun _ z => by cases z) (Option.some.inj z)) m1 m2 m3
  have e : upd H1 x (.ins C dy fs) = H1 := by
    funext b
    by_cases hb : b = x
    · rw [hb, upd_same, e1]
    · rw [upd_ne hb]
  rw [e] at z
  exact q _ _ n1 _ _ z (.ins ic upd_same e3 (e4.up (Ex.new e2))) pp
theorem rd_make {C : Addr} {DS : DSI} (h : RdA K T S E ta G) : DL.Rd K T S E (tMake C (spI K T C DS) [] E ta) (xMake K C DS G) := fun σ ρ Hb H n P XP Q w sl hf q x =>
  h σ ρ Hb H n _ XP _ w sl hf (fun ss vs n1 Hb1 H1 s ha p y dx hy hdx ne => by
    obtain ⟨ic, ho, hd⟩ := p
    exact ⟨S, Hb1, H1, n1, y, dx, ss, vs, _, XP, by rw [List.append_nil], rfl, hy, hdx, ne, s.wd, ha, ⟨ho, hd⟩, fun ns ds dy fs n' Hb' H' s2 e1 e2 e3 e4 pp => ⟨rfl, made s2 ic (q.step s) hy e1 e2 e3 e4 s.wd pp⟩, x.step s⟩) x
end
end DL

/-! a def that makes lambdas; work() caught -/
namespace DL
open L2 PySem PySem.Spec PyProof.Rows
open Evl (Ex ex_l ex_t sz_of)
/-- a def with its code object at c -/
structure FunC (K : PySem.W.Frag) (x qual : Str) (st : Stmt) (f : Addr) (fd : FuncData) (c : Addr) : Prop where
  ex : ∃ (oc : Value) (od : Option Addr) (kV doc pm : Value) (an : Option Addr) (ct : Value) (osl : Array (Option Value)),
    fd = PySem.W.fnOf x qual (defArgs st) (defBody st) (defScope st) .none kV doc pm an (.ref c) ct ∧ K.lookup f = some ⟨oc, od, .func fd, osl⟩ ∧ PySem.W.codeIn K (.ref c) qual = true
section
variable {P : Program} {w : PySem.World} {K : PySem.W.Frag} {T : Tb} {mg : Str → Option Value} {base : Heap}
/-- what the frame that makes a lambda must know: its own code object and the table there -/
structure MakesAt (base : Heap) (mg : Str → Option Value) (T : Tb) (q : Str) (c : Addr) : Prop where
  ex : ∃ P, LamX.TabB base mg c P ∧ (P, q) ∈ T ∧ ∀ p ∈ T, p.1 = P → p.2 = q
end
section
variable {X : Cx} {T : Tb}
/-- _law_caught(lambda: body) -/
theorem lam_call {st : Stmt} {CS c : Addr} {k : Nat} {params : Arguments} {body : Expr} {scope : Scope} {t : XK → TE} {p lpos pos : Pos} (D : DefAt X.K X.mg "_law_caught" st ["work"]) (Sg : FnScope ["work", "caught", "error"] ["work"] (defScope st))
    (hG : ∀ g cdg, LamX.GivesTo X ["work", "caught", "error"] "_law_caught" (defScope st) g cdg (defBody st) "work" (X.env.qual ++ "<lambda>") (TTc X.K CS))
    (M : MakesAt X.base X.mg T (X.env.qual ++ "<lambda>") c) (hcode : X.env.code = .ref c) (hr : Room (k + 2) X.A) (L : LamX.LamS X.env.scope scope) (hg : Gl X "_law_caught") (hdef : defaultsOf params X.env = ([], []))
    (hbind : ∀ (q : Str) (cl : List (Str × Addr)) (pm cv ctv : Value), bindArgs (PySem.W.kla_fn "<lambda>" q params body scope cl pm cv ctv) ⟨[], []⟩ = pure [])
    (hbody : ∀ (A : Around) (outer : List Env) (s : Shared) (H : Hp) (E : XK) (f c' : Addr), Room k (A.deeper (LamX.lamEnv X scope s.heap.objs.size f c')) → PE (LamX.lamCx X A outer s H E scope f c') body (t E)) :
    PE X (.Call (.Name "_law_caught" p) [.Lambda params body scope lpos] [] pos) (LamX.tLam T (TTc X.K CS) t) := by
  obtain ⟨g, fd, F, hm, hk, hb⟩ := D
  obtain ⟨oc, od, kV, doc, pm, an, cdv, ct, osl, rfl, lk, hcd⟩ := F.ex
  obtain ⟨P, TB, hmT, hu⟩ := M.ex
  exact LamX.pe_lamcall (Ng := ["work", "caught", "error"]) hg hm hk lk hcd hb Sg rfl (Sg.par "work" (by simp) |>.elim (fun q => .inl q) fun q => .inr (.inl q)) (hG g cdv) TB hcode hmT hu hr L hdef hbind hbody
end
end DL

/-! how defs and classes stand, in short; keywords of a class -/
namespace DL
open L2 PySem PySem.Spec PyProof.Rows
open Evl (Ex ex_l ex_t sz_of)
def gsw {α : Type} : List α → List α → List α
  | [s], [a, b] => [s, b, a]
  | us, ws => us ++ ws
theorem gsw_rel {vs : List V} {us : List Value} {zs : List V} {ws : List Value} (h : Vals vs us) (g : Vals zs ws) : Vals (gsw vs zs) (gsw us ws) := by
  have d : Vals (vs ++ zs) (us ++ ws) := h.append g
  cases h with
  | nil => simpa [gsw] using d
  | cons a ra =>
    cases ra with
    | cons b rb => simpa [gsw] using d
    | nil =>
      cases g with
      | nil => simpa [gsw] using d
      | cons b rb =>
        cases rb with
        | nil => simpa [gsw] using d
        | cons c rc =>
          cases rc with
          | nil => exact .cons a (.cons c (.cons b .nil))
          | cons e re => simpa [gsw] using d
/-- a class whose __init__ takes two values -/
def Init2 (K : PySem.W.Frag) (qual : Str) (C : Addr) (st : Stmt) (a b : Str) : Prop :=
  ∃ f fd, Fun K "__init__" qual st f fd ∧ Mk K C f ∧ Binds K fd ["self", a, b] [] ∧ KBn K fd ["self", a, b] 1 [b, a] gsw gsw
def HasI (P : Program) (w : PySem.World) (K : PySem.W.Frag) (mg : Str → Option Value) (base : Heap) (k : Nat) (C : Addr) (a b : Str) (sp : Sp) : Prop :=
  ∃ f fd, FnOk P w K mg base (L2.CX P w) k f fd ["self", a, b] sp ∧ Mk K C f ∧ Binds K fd ["self", a, b] [] ∧ KBn K fd ["self", a, b] 1 [b, a] gsw gsw
section
variable {K : PySem.W.Frag} {T : Tb} {S : SA} {E : XK} {ta : TA} {G : DTA}
end
end DL

/-! the source of draws is made; a law's own def -/
namespace DL
open L2 PySem PySem.Spec PyProof.Rows
open Evl (Ex ex_l ex_t sz_of)
def stBegun (l c : Addr) : List (Key × V) := [(kLarge, .ref l), (kCells, .ref c), (kLeft, .int 0), (kTurn, .int 0)]
/-- _law_begun(script) -/
def spBegun (K : PySem.W.Frag) : Sp := fun vs H Q _ => ∃ (a : Addr) (ns : List Int), vs = [.ref a] ∧ SqL K H a (ns.map V.int) ∧ ns.length ≤ 63 ∧
  ∀ (c l d : Addr) (cs ls : List Int) (H' : Hp), H c = none → H l = none → H d = none → c ≠ l → c ≠ d → l ≠ d → H' c = some (.lst (cs.map V.int)) → H' l = some (.lst (ls.map V.int)) → H' d = some (.dK (stBegun l c)) →
    (∀ b, b ≠ c → b ≠ l → b ≠ d → H' b = H b) → (∀ x ∈ cs, 0 ≤ x) → (∀ x ∈ ls, 0 ≤ x) → cs.length ≤ 63 → ls.length ≤ 63 → Q (.ref d) H'
section
variable {K : PySem.W.Frag} {T : Tb} {H H' : Hp} {a c l d : Addr} {ns cs ls : List Int}
theorem world_from {Hb : Hp} (tabs : LamX.Tabs T H) (hc : H c = none) (hl : H l = none) (hd : H d = none) (cl : c ≠ l) (cd : c ≠ d) (ld : l ≠ d) (e1 : H' c = some (.lst (cs.map V.int))) (e2 : H' l = some (.lst (ls.map V.int))) (e3 : H' d = some (.dK (stBegun l c)))
    (keep : ∀ b, b ≠ c → b ≠ l → b ≠ d → H' b = H b) (p1 : ∀ x ∈ cs, 0 ≤ x) (p2 : ∀ x ∈ ls, 0 ≤ x) (l1 : cs.length ≤ 63) (l2 : ls.length ≤ 63) (eb : Ex Hb H) (nt : ∀ b ps, Hb b ≠ some (.tbl ps)) :
    World T ⟨d, l, c, cs⟩ (upd Hb c (.lst (cs.map V.int))) H' ∧ StOk K ⟨d, l, c, cs⟩ (upd Hb c (.lst (cs.map V.int))) H' 0 := by
  have kp : ∀ {b : Addr} {o : HO}, H b = some o → H' b = some o := fun {b o} e => by
    rw [keep b (ne_of_none e hc) (ne_of_none e hl) (ne_of_none e hd)]
    exact e
  have fb : ∀ {b : Addr}, H b = none → Hb b = none := fun h => Evl.fresh_back eb h
  refine ⟨⟨fun b o e => ?_, fun p hp => (tabs p hp).ext fun b o e => kp e, fun p hp => ?_, ⟨_, e3, (fun _ z => by cases z)⟩, ⟨_, e2, (fun _ z => by cases z)⟩, ⟨_, e1, (fun _ z => by cases z)⟩, fun b ps z => ?_⟩, ?_⟩
  · by_cases hb : b = c
    · rw [hb, upd_same] at e
      rw [hb, e1]
      exact e
    · rw [upd_ne hb] at e
      exact kp (eb b o e)
  · obtain ⟨ps, e, _⟩ := tabs p hp
    rw [upd_ne (ne_of_none e hc)]
    cases h : Hb p.1 with
    | none => rfl
    | some o =>
      have z := eb _ _ h
      rw [e] at z
      cases z
      exact (nt _ _ h).elim
  · by_cases hb : b = c
    · rw [hb, upd_same] at z
      cases z
    · rw [upd_ne hb] at z
      exact nt b ps z
  · refine ⟨by rw [upd_ne cd.symm]; exact fb hd, by rw [upd_ne cl.symm]; exact fb hl, ls, cs, 0, 0, cl, cd, ld.symm, e3, e2, upd_same, p2, p1, Int.le_refl _, Nat.le_refl _, l2, l1, rfl⟩
theorem begun_world (tabs : LamX.Tabs T H) (hS : SqL K H a (ns.map V.int)) (hc : H c = none) (hl : H l = none) (hd : H d = none) (cl : c ≠ l) (cd : c ≠ d) (ld : l ≠ d) (e1 : H' c = some (.lst (cs.map V.int))) (e2 : H' l = some (.lst (ls.map V.int))) (e3 : H' d = some (.dK (stBegun l c)))
    (keep : ∀ b, b ≠ c → b ≠ l → b ≠ d → H' b = H b) (p1 : ∀ x ∈ cs, 0 ≤ x) (p2 : ∀ x ∈ ls, 0 ≤ x) (l1 : cs.length ≤ 63) (l2 : ls.length ≤ 63) :
    ∃ Hb, World T ⟨d, l, c, cs⟩ Hb H' ∧ StOk K ⟨d, l, c, cs⟩ Hb H' 0 ∧ SqL K Hb a (ns.map V.int) := by
  rcases hS with hR | hK
  · have hH : ∃ o, H a = some o ∧ (∀ ps, o ≠ .tbl ps) ∧ ∀ Hb : Hp, Hb a = some o → L2.Rd Hb a (.lst (ns.map V.int)) := by
      rcases hR with h | ⟨o, h⟩
      · exact ⟨_, h, (fun _ z => by cases z), fun Hb e => .inl e⟩
      · exact ⟨_, h, (fun _ z => by cases z), fun Hb e => .inr ⟨o, e⟩⟩
    obtain ⟨o, h, ho, rd⟩ := hH
    have eb : Ex (upd (fun _ => none) a o) H := fun b u e => by
      by_cases hb : b = a
      · rw [hb, upd_same] at e
        rw [hb, h]
        exact e
      · rw [upd_ne hb] at e
        cases e
    obtain ⟨g1, g2⟩ := world_from (K := K) tabs hc hl hd cl cd ld e1 e2 e3 keep p1 p2 l1 l2 eb (nt_upd (fun _ _ z => by cases z) ho)
    exact ⟨_, g1, g2, .inl (rd _ (by rw [upd_ne (ne_of_none h hc)]; exact upd_same))⟩
  · obtain ⟨g1, g2⟩ := world_from (Hb := fun _ => none) (K := K) tabs hc hl hd cl cd ld e1 e2 e3 keep p1 p2 l1 l2 (fun _ _ e => by cases e) (fun _ _ z => by cases z)
    exact ⟨_, g1, g2, .inr hK⟩
/-- the source of draws is stored -/
theorem Slots.setSt {S : SA} {Hb : Hp} {n : Nat} {ρ : List SV} {σ : L2.St} {i : Nat} (sl : Slots K S Hb H n ρ σ) (h : StOk K S Hb H n) : Slots K S Hb H n (ρ.set i .st) (σ.set i (some (.ref S.a))) where
  len := by rw [List.length_set, List.length_set]; exact sl.len
  ok := fun j s e => by
    by_cases hj : i = j
    · subst hj
      have hl : i < ρ.length := by
        have := (List.getElem?_eq_some_iff.mp e).1
        rwa [List.length_set] at this
      rw [List.getElem?_set_self hl] at e
      cases e
      exact ⟨_, List.getElem?_set_self (by rw [← sl.len]; exact hl), rfl, h⟩
    · rw [List.getElem?_set_ne hj] at e
      obtain ⟨o, e1, e2⟩ := sl.ok j s e
      exact ⟨o, by rw [List.getElem?_set_ne hj]; exact e1, e2⟩
  ap := fun j k q ys zs hjk ej ek sj sk => by
    have f : ∀ {m : Nat} {u : List D}, (ρ.set i .st)[m]? = some (.ol u) → i ≠ m ∧ ρ[m]? = some (.ol u) := fun {m u} e => by
      by_cases hm : i = m
      · subst hm
        have hl : i < ρ.length := by
          have := (List.getElem?_eq_some_iff.mp e).1
          rwa [List.length_set] at this
        rw [List.getElem?_set_self hl] at e
        cases e
      · rw [List.getElem?_set_ne hm] at e
        exact ⟨hm, e⟩
    obtain ⟨h1, e1⟩ := f ej
    obtain ⟨h2, e2⟩ := f ek
    rw [List.getElem?_set_ne h1] at sj
    rw [List.getElem?_set_ne h2] at sk
    exact sl.ap j k q ys zs hjk e1 e2 sj sk
/-- a, b = e, where a frame's cell is among them -/
def xsAsgG (F : DT) (G : DTG) : DTS := fun DD ρ n XP => F ρ n (fun d n1 => G d ρ fun ρ2 => DD.nx ρ2 n1) XP
theorem rds_asgG {S : SA} {E : XK} {vs : List Nat} {g : TG} {G : DTG} {te : TE} {FE : DT} (h1 : DL.Rd K T S E te FE) (hg : RdG K T S vs g G) : RdS K T S E (tAsg te g) (xsAsgG FE G) := fun σ ρ Hb0 H0 n0 Hb H n DD XP D a sl h q x =>
  h1 σ ρ Hb H n _ XP _ a.wd sl.sl h (fun d v n1 Hb1 H1 s hd pp => hg v d σ ρ H0 Hb1 H1 n1 _ _ s.wd (sl.step s) hd pp fun ρ' σ' sl' _ p => q.nx _ _ n1 Hb1 H1 s.ex (a.trans s) sl' p) (x.step a)
/-- a law's promise: True at every script -/
def spLaw (K : PySem.W.Frag) (T : Tb) : Sp := fun vs H Q _ => ∃ (a : Addr) (ns : List Int), vs = [.ref a] ∧ SqL K H a (ns.map V.int) ∧ ns.length ≤ 63 ∧ LamX.Tabs T H ∧ ∀ H', Q (.bl true) H'
/-- state = _law_begun(script), then the rest on data -/
theorem law_body {N : List Str} {E9 : XK} {ts : TS} {Q : VK} (hN : 2 ≤ N.length) (hS : SqL K H a (ns.map V.int)) (hl : ns.length ≤ 63) (tabs : LamX.Tabs T H) (q : ∀ H', Q (.bl true) H')
    (rest : ∀ S : SA, ∃ G, RdS K T S E0 ts G ∧ G { nx := fun _ _ => False, rt := fun d _ => d = .bl true } ((startS N [.d (.lst (ns.map D.int))]).set 1 .st) 0 xF) :
    tSeq (tAsg (tCall (spBegun K) [] E9 (tCons (tVar 0) tNil)) (gName 1)) ts { nx := fun _ H' => Q .non H', rt := Q } (L2.start N [.ref a]) H := by
  refine ⟨.ref a, rfl, a, ns, rfl, hS, hl, fun c l d cs ls H' hc hl' hd cl cd ld e1 e2 e3 keep p1 p2 l1 l2 => ?_⟩
  obtain ⟨Hb, w, st, hS'⟩ := begun_world (T := T) tabs hS hc hl' hd cl cd ld e1 e2 e3 keep p1 p2 l1 l2
  obtain ⟨G, hG, g⟩ := rest ⟨d, l, c, cs⟩
  have sl0 : Slots K ⟨d, l, c, cs⟩ Hb H' 0 (startS N [.d (.lst (ns.map D.int))]) (L2.start N [.ref a]) := .start (.cons ⟨_, rfl, .lst hS' (DnA.ints ns)⟩ .nil) rfl
  refine hG _ _ Hb H' 0 Hb H' 0 _ xF _ (.refl w) ⟨sl0.setSt (i := 1) st, fun i s p ei eo _ => ?_⟩ g ⟨fun _ _ _ _ _ _ _ _ p => p.elim, fun dd v n' Hb' H2 _ hv e => ?_, fun _ _ _ _ _ _ _ _ p => p.elim, fun _ _ _ _ _ _ _ _ p => p.elim⟩ .none
  · by_cases hi : 1 = i
    · subst hi
      have h1 : 1 < (startS N [.d (.lst (ns.map D.int))]).length := by
        have := (List.getElem?_eq_some_iff.mp ei).1
        rwa [List.length_set] at this
      rw [List.getElem?_set_self h1] at ei
      cases ei
      cases eo
    · rw [List.getElem?_set_ne hi] at ei
      rcases start_cases ei with h | rfl
      · rw [noOl_get (ss := [.d (.lst (ns.map D.int))]) rfl h] at eo
        cases eo
      · cases eo
  · subst e
    cases hv
    exact q H2
end
end DL

/-! list(zip(a, b)) of two tuples -/
namespace RZ
open PySem PySem.Calls PyProof.Rows PyProof.V PySem.Spec PySem.W
section
variable {prog : Program} {w : World} {A : Around} {E : Value → Shared → Prop} {s : Shared}
/-- the zip amid its run, its tuples kept by others -/
structure ZSt (h : Heap) (z TI TO i1 i2 a b : Addr) (k : Nat) : Prop where
  ti : IsPair h TI (.ref i1) (.ref i2)
  one : h.IsTupleIter i1 a k
  two : h.IsTupleIter i2 b k
  fst : (IsZip h z TI TO .none ∧ ∃ x y, IsPair h TO x y) ∨ ∃ T f o, IsZipHeld h z TI TO T f ∧ h.get? T = some o ∧ T ≠ z ∧ T ≠ i1 ∧ T ≠ i2
theorem ZSt.at {h h' : Heap} {z TI TO i1 i2 a b : Addr} {k : Nat} (x : ZSt h z TI TO i1 i2 a b k) {S : Addr} (e : ∀ c o, c ≠ S → h.get? c = some o → h'.get? c = some o) (es : ∃ o, h'.get? S = some o) (n1 : S ≠ z) (n2 : S ≠ TI) (n3 : S ≠ TO) (n4 : S ≠ i1) (n5 : S ≠ i2) : ZSt h' z TI TO i1 i2 a b k := by
  obtain ⟨h1, h2, h3, h4⟩ := x
  refine ⟨e _ _ n2.symm h1, h2.at fun o q => e _ o n4.symm q, h3.at fun o q => e _ o n5.symm q, ?_⟩
  rcases h4 with ⟨h4, x, y, h5⟩ | ⟨T, f, o, h4, h5, h6⟩
  · exact .inl ⟨e _ _ n1.symm h4, x, y, e _ _ n3.symm h5⟩
  · by_cases hT : T = S
    · obtain ⟨o', es⟩ := es
      exact .inr ⟨T, f, o', e _ _ n1.symm h4, by rw [hT]; exact es, h6⟩
    · exact .inr ⟨T, f, o, e _ _ n1.symm h4, e _ _ hT h5, h6⟩
end
section
variable {prog : Program} {w : World} {A : Around} {s : Shared} {R : Result → Shared → Prop} {xs ys : Array Value} {z TI TO i1 i2 l1 l2 S : Addr} {N : Nat}
end
end RZ
namespace RZ
open PySem PySem.Spec PyProof.Rows L2
theorem Un.more {fs ex : List Addr} {H H1 : Hp} {h h' : Heap} {a : Addr} {o : HO} (u : Un fs ex H H1 h h') (hp : h.objs.size ≤ a) (hn : H1 a = none) : Un fs ex H (upd H1 a o) h h' where
  keep := u.keep
  slot := u.slot
  free := fun b ob q n hx => by rw [upd_ne (Nat.ne_of_lt (Nat.lt_of_lt_of_le (Heap.lt_size q) hp))]; exact u.free b ob q n hx
  there := u.there
  tups := fun b xs q => by
    have z := u.tups b xs q
    rw [upd_ne (ne_of_none z hn)]; exact z
  frzs := fun b ob v q => by
    have z := u.frzs b ob v q
    rw [upd_ne (ne_of_none z hn)]; exact z
  tbls := fun b ps q => by
    obtain ⟨m, z⟩ := u.tbls b ps q
    exact ⟨m, by rw [upd_ne (ne_of_none z hn)]; exact z⟩
end RZ
namespace DL
open L2 PySem PySem.Spec PyProof.Rows
open Evl (Ex ex_l ex_t sz_of)
section
variable {K : PySem.W.Frag} {T : Tb} {S : SA} {E : XK}
end
end DL

/-! the end over a head by facts -/
namespace DL
open L2 PySem PySem.Spec PyProof.Rows
theorem walkGE {l : PySem.W.OpenLaw} {n k : Nat} {q : Program} {loose : List Str} {XP : (Str → Option Value) → Heap → Prop} {YP : PySem.World → Heap → Prop} {d : DefRec} {CX : PySem.World → CXT} {x : Str}
    (hn : l.most = some n) (hn2 : n ≤ sizeLine) (hdf : d.params.defaults = []) (hr : Room k callerA)
    (F : ∀ (w : PySem.World) (mg : Str → Option Value) (fa : Addr) (h : Heap), YP w h → h.Ns mainGlobals mg → mg d.name = some (.ref fa) → ∃ K : PySem.W.Frag, K.In h ∧ LawG l w K (CX w) k n x mg fa h)
    (hX : ∀ (w : PySem.World) (H : Hp) (s : Shared) (e : Value) (s' : Shared), CX w [] H s (fun _ _ _ => False) e s' → False) :
    PySem.W.WalkO q loose XP YP l.row.toRowW d [] (fun f vs => PySem.call f vs) :=
  Att.attach_callB hn hdf fun w s₀ s₁ mg mb fa o pm cd doc a vs ns G Y ho hd hcd hmg hobj hints hlen hbits hg => by
    obtain ⟨K, KX, cs, fd, sp, ⟨h1, h2, h3⟩, hF, hb, hsp⟩ := F w mg fa _ Y G.T.g hmg
    exact end_call KX G.T.g G.T.b G.T.builtins G.T.nolimit hg h1 h3 h2 G.T.bmain hobj hints (Nat.le_trans hlen hn2) hr hF hb (fun H hH hS => hsp H a ns hlen hbits hH hS) fun H e s' => hX w H s₁ e s'

/-! ### facts as Bools -/
open He (ga ma fAd cT)
def eqB (a b : Option Bool) : Bool := match a, b with
  | some x, some y => x == y
  | _, _ => false
theorem eqB_ok {a : Option Bool} {b : Bool} (h : eqB a (some b) = true) : a = some b := by
  cases a with
  | none => cases h
  | some x =>
    have e : (x == b) = true := h
    rw [eq_of_beq e]
def tys6 : List String := ["int", "bool", "str", "tuple", "list", "dict"]
def tys7 : List String := ["NoneType", "bool", "int", "str", "list", "tuple", "dict"]
def noTyB (K : PySem.W.Frag) (C : Addr) : Bool := tys6.all fun t => eqB (PySem.W.kitOne K (.ref C) (.type t)) (some false)
theorem noTyB_ok {K : PySem.W.Frag} {C : Addr} (h : noTyB K C = true) : NoTy K C := fun t ht => eqB_ok (List.all_eq_true.mp h t ht)
def excCB (K : PySem.W.Frag) (D : Addr) : Bool :=
  He.eqO (PySem.W.findIn K (.ref D) "__getattribute__") (some (some (.builtin "BaseException.__getattribute__"))) && (He.eqO (PySem.W.findIn K (.ref D) "__getattr__") (some none) && (eqB (PySem.W.subIn K (.ref D) (.type "BaseException")) (some true) && (PySem.W.hasDictIn K D &&
  (He.eqO (PySem.W.findIn K (.ref D) "__class__") (some (some (.builtin "object.__class__"))) && (He.eqO (PySem.W.specialIn K (.builtin "object.__class__") "__get__") (some (some (.builtin "getset_descriptor.__get__"))) && (eqB (PySem.W.takesIn K (.builtin "object.__class__")) (some true) && eqB (PySem.W.mroIn K D (.type "object")) (some true)))))))
theorem b2 {a b : Bool} (h : (a && b) = true) : a = true ∧ b = true := Bool.and_eq_true_iff.mp h
theorem excCB_ok {K : PySem.W.Frag} {D : Addr} (h : excCB K D = true) : ExcC K D := by
  obtain ⟨h1, h⟩ := b2 h
  obtain ⟨h2, h⟩ := b2 h
  obtain ⟨h3, h⟩ := b2 h
  obtain ⟨h4, h⟩ := b2 h
  obtain ⟨h5, h⟩ := b2 h
  obtain ⟨h6, h⟩ := b2 h
  obtain ⟨h7, h8⟩ := b2 h
  exact ⟨He.eqO_ok h1, He.eqO_ok h2, eqB_ok h3, h4, He.eqO_ok h5, He.eqO_ok h6, eqB_ok h7, eqB_ok h8⟩
def errCB (K : PySem.W.Frag) (CS C : Addr) : Bool := excCB K C && (noTyB K C && eqB (PySem.W.exmOne K (.ref C) (.ref CS)) (some true))
theorem errCB_ok {K : PySem.W.Frag} {CS C : Addr} (h : errCB K CS C = true) : ErrC K CS C := by
  obtain ⟨h1, h⟩ := b2 h
  obtain ⟨h2, h3⟩ := b2 h
  exact ⟨excCB_ok h1, noTyB_ok h2, eqB_ok h3⟩
def eqV (a : Option Value) (b : Value) : Bool := He.eqO (some a) (some (some b))
theorem eqV_ok {a : Option Value} {b : Value} (h : eqV a b = true) : a = some b := Option.some.inj (He.eqO_ok h)
def veB : List Value := [.type "ValueError", .type "Exception", .type "BaseException", .type "object"]
structure ErrF (K : PySem.W.Frag) (CS C : Addr) : Prop where
  x : PySem.W.excIn K C veB "ValueError.__new__" = true
  e : PySem.W.keepIn K (.ref C) = true
  b : PySem.W.subIn K (.ref C) (.type "BaseException") = some true
  t : PySem.W.typeIn K (.ref C) = some (.type "type")
  r : ErrC K CS C
  i : PySem.W.kitOne K (.ref C) (.ref C) = some true
  v : PySem.W.kitOne K (.ref C) (.type "ValueError") = some true
def errFB (K : PySem.W.Frag) (CS C : Addr) : Bool := PySem.W.excIn K C veB "ValueError.__new__" && (PySem.W.keepIn K (.ref C) && (eqB (PySem.W.subIn K (.ref C) (.type "BaseException")) (some true) && (eqV (PySem.W.typeIn K (.ref C)) (.type "type") && (errCB K CS C && (eqB (PySem.W.kitOne K (.ref C) (.ref C)) (some true) && eqB (PySem.W.kitOne K (.ref C) (.type "ValueError")) (some true))))))
theorem errFB_ok {K : PySem.W.Frag} {CS C : Addr} (h : errFB K CS C = true) : ErrF K CS C := by
  obtain ⟨h1, h⟩ := b2 h
  obtain ⟨h2, h⟩ := b2 h
  obtain ⟨h3, h⟩ := b2 h
  obtain ⟨h4, h⟩ := b2 h
  obtain ⟨h5, h⟩ := b2 h
  obtain ⟨h6, h7⟩ := b2 h
  exact ⟨h1, h2, eqB_ok h3, eqV_ok h4, errCB_ok h5, eqB_ok h6, eqB_ok h7⟩
def clsB (K : PySem.W.Frag) (C : Addr) : Bool := PySem.W.plainGet K C Str.empty && (PySem.W.hasDictIn K C && (PySem.W.plainOver K C && He.eqO (PySem.W.findIn K (.ref C) "__setattr__") (some (some (.builtin "object.__setattr__")))))
theorem clsB_ok {K : PySem.W.Frag} {C : Addr} (h : clsB K C = true) : Cls K C := by
  obtain ⟨h1, h⟩ := b2 h
  obtain ⟨h2, h⟩ := b2 h
  obtain ⟨h3, h4⟩ := b2 h
  exact ⟨h1, h2, h3, He.eqO_ok h4⟩
def inCB (K : PySem.W.Frag) (C : Addr) : Bool := clsB K C && (He.eqO (PySem.W.findIn K (.ref C) "__class__") (some (some (.builtin "object.__class__"))) && (He.eqO (PySem.W.specialIn K (.builtin "object.__class__") "__get__") (some (some (.builtin "getset_descriptor.__get__"))) &&
  (eqB (PySem.W.takesIn K (.builtin "object.__class__")) (some true) && (eqB (PySem.W.mroIn K C (.type "object")) (some true) && noTyB K C))))
theorem inCB_ok {K : PySem.W.Frag} {C : Addr} (h : inCB K C = true) : InC K C := by
  obtain ⟨h1, h⟩ := b2 h
  obtain ⟨h2, h⟩ := b2 h
  obtain ⟨h3, h⟩ := b2 h
  obtain ⟨h4, h⟩ := b2 h
  obtain ⟨h5, h6⟩ := b2 h
  exact ⟨clsB_ok h1, He.eqO_ok h2, He.eqO_ok h3, eqB_ok h4, eqB_ok h5, noTyB_ok h6⟩
structure ClsF (K : PySem.W.Frag) (C : Addr) (as : List Str) : Prop where
  ic : InC K C
  no : ∀ t ∈ tys7, PySem.W.kitOne K (.type t) (.ref C) = some false
  i : PySem.W.kitOne K (.ref C) (.ref C) = some true
  na : ∀ a ∈ as, NoAttr K C a
def clsFB (K : PySem.W.Frag) (C : Addr) (as : List Str) : Bool := inCB K C && ((tys7.all fun t => eqB (PySem.W.kitOne K (.type t) (.ref C)) (some false)) && (eqB (PySem.W.kitOne K (.ref C) (.ref C)) (some true) && as.all fun a => He.eqO (PySem.W.findIn K (.ref C) a) (some none)))
theorem clsFB_ok {K : PySem.W.Frag} {C : Addr} {as : List Str} (h : clsFB K C as = true) : ClsF K C as := by
  obtain ⟨h1, h⟩ := b2 h
  obtain ⟨h2, h⟩ := b2 h
  obtain ⟨h3, h4⟩ := b2 h
  exact ⟨inCB_ok h1, fun t ht => eqB_ok (List.all_eq_true.mp h2 t ht), eqB_ok h3, fun a ha => He.eqO_ok (List.all_eq_true.mp h4 a ha)⟩
def mkB (K : PySem.W.Frag) (C : Addr) : Bool := PySem.W.makesIn K C && (He.eqO (PySem.W.findIn K (.ref C) "__init__") (some (some (.ref (ma K C "__init__")))) && (PySem.W.isFn K (.ref (ma K C "__init__")) && PySem.W.keepIn K (.ref C)))
theorem mkB_ok {K : PySem.W.Frag} {C : Addr} (h : mkB K C = true) : Mk K C (ma K C "__init__") := by
  obtain ⟨h1, h⟩ := b2 h
  obtain ⟨h2, h⟩ := b2 h
  obtain ⟨h3, h4⟩ := b2 h
  exact ⟨h1, He.eqO_ok h2, h3, h4⟩
section
variable {K : PySem.W.Frag} {mg : Str → Option Value}
/-- a def whose code object has a table -/
theorem funC_of {p : He.Defn} {x qual : Str} {st : Stmt} {fd : FuncData} {kws : List (Str × V)} (F : L2.FunD K x qual (defArgs st) (defBody st) (defScope st) [] kws (fAd K p) fd) : FunC K x qual st (fAd K p) fd (cT K p).1 := by
  obtain ⟨oc, od, dV, kV, doc, pm, an, cdv, ct, osl, e, l, c, hd, _⟩ := F.ex
  rcases hd with ⟨_, e2⟩ | ⟨e2, _⟩
  · subst e2
    obtain ⟨c', rfl⟩ := He.codeIn_ref c
    have z : He.codeOf K p = c' := He.codeOf_eq l (by rw [e])
    have z2 : (cT K p).1 = c' := z
    rw [z2]
    exact ⟨oc, od, kV, doc, pm, an, ct, osl, e, l, c⟩
  · exact absurd rfl e2
theorem init2_of {qual : Str} {C : Addr} {st : Stmt} {a b : Str} {fd : FuncData} (F : L2.Fun K "__init__" qual st (ma K C "__init__") fd) (m : Mk K C (ma K C "__init__")) (hb : Binds K fd ["self", a, b] [])
    (hk : ∀ (s : Shared) (us ws : List Value), us.length = 1 → ws.length = 2 → BindsTo s fd ⟨us, [b, a].zip ws⟩ ((["self", a, b] : List Str).zip (gsw us ws))) : Init2 K qual C st a b :=
  ⟨_, fd, F, m, hb, ⟨fun s us ws _ h1 h2 => hk s us ws h1 h2, fun h g => gsw_rel h g⟩⟩
end
end DL
namespace DL
open L2 PySem PySem.Spec PyProof.Rows
open He (ga ma fAd cT)
def TTof (K : PySem.W.Frag) (tfs : List (He.Defn × Str)) : Tb := tfs.map fun p => ((cT K p.1).2, p.2)
def apartB (K : PySem.W.Frag) (tfs : List (He.Defn × Str)) : Bool := tfs.all fun p => tfs.all fun q => !(decide ((cT K p.1).2 = (cT K q.1).2)) || decide (p.2 = q.2)
theorem makesAt_of {K : PySem.W.Frag} {base : Heap} {mg : Str → Option Value} {tfs : List (He.Defn × Str)} (hn : apartB K tfs = true) (TB : ∀ p ∈ tfs.map (fun p => cT K p.1), LamX.TabB base mg p.1 p.2) {p : He.Defn × Str} (hp : p ∈ tfs) : MakesAt base mg (TTof K tfs) p.2 (cT K p.1).1 :=
  ⟨⟨(cT K p.1).2, TB _ (List.mem_map.mpr ⟨p, hp, rfl⟩), List.mem_map.mpr ⟨p, hp, rfl⟩, fun q hq e => by
    obtain ⟨r, hr, rfl⟩ := List.mem_map.mp hq
    have h1 := List.all_eq_true.mp (List.all_eq_true.mp hn r hr) p hp
    have e' : (cT K r.1).2 = (cT K p.1).2 := e
    simpa [e'] using h1⟩⟩
theorem tabs_of {K : PySem.W.Frag} {H : Hp} {tfs : List (He.Defn × Str)} (hH : ∀ p ∈ tfs.map (fun p => cT K p.1), H p.2 = some (.tbl #[])) : LamX.Tabs (TTof K tfs) H := fun q hq => by
  obtain ⟨r, hr, rfl⟩ := List.mem_map.mp hq
  exact LamX.TabS.nil (hH _ (List.mem_map.mpr ⟨r, hr, rfl⟩))
end DL

/-! lists of one's own: frozen, looked at, popped; while; stores of new lists -/
namespace DL
open L2 PySem PySem.Spec PyProof.Rows
open Evl (Ex ex_l ex_t sz_of)
section
variable {K : PySem.W.Frag} {T : Tb} {S : SA} {E : XK} {Hb H Hb1 H1 Hb2 H2 : Hp} {n n1 n2 : Nat} {te : TE} {FE : DT}
theorem upd_id {H : Hp} {p : Addr} {o : HO} (h : H p = some o) : upd H p o = H := by
  funext b
  by_cases hb : b = p
  · rw [hb, upd_same, h]
  · rw [upd_ne hb]
/-- the list at p counts as frozen -/
theorem frz_world {p : Addr} {vs : List V} (w : World T S Hb H) (h1 : H p = some (.lst vs)) : World T S (upd Hb p (.lst vs)) H :=
  ⟨fun b o e => by
    by_cases hb : b = p
    · rw [hb, upd_same] at e
      rw [hb, h1]
      exact e
    · rw [upd_ne hb] at e
      exact w.ex b o e, w.tabs, fun q hq => by
    obtain ⟨ps, e, _⟩ := w.tabs q hq
    rw [upd_ne (fun z => by rw [z, h1] at e; cases e)]
    exact w.tb q hq, w.sa, w.sl, w.sc, nt_upd w.nt fun _ z => by cases z⟩
theorem frz_st {p : Addr} {vs : List V} (h3 : p ≠ S.a) (h4 : p ≠ S.l) (h5 : p ≠ S.c) (h : StOk K S Hb H n) : StOk K S (upd Hb p (.lst vs)) H n := by
  obtain ⟨g1, g2, ls, cs, m, t, g3, g4, g5, g6, g7, g8, rest⟩ := h
  exact ⟨by rw [upd_ne h3.symm]; exact g1, by rw [upd_ne h4.symm]; exact g2, ls, cs, m, t, g3, g4, g5, g6, g7, by rw [upd_ne h5.symm]; exact g8, rest⟩
theorem frz_slots {ρ : List SV} {σ : L2.St} {i : Nat} {p : Addr} {vs : List V} {xs : List D} (sl : Slots K S Hb H n ρ σ) (ei : ρ[i]? = some (.ol xs)) (es : σ[i]? = some (some (.ref p))) (h1 : H p = some (.lst vs)) (h2 : Hb p = none) (h3 : p ≠ S.a) (h4 : p ≠ S.l) (h5 : p ≠ S.c) (h6 : DnA K Hb vs xs) :
    Slots K S (upd Hb p (.lst vs)) H n (ρ.set i (.d (.lst xs))) σ where
  len := by rw [List.length_set]; exact sl.len
  ok := fun j s e => by
    have ex := Ex.new (o := .lst vs) h2
    by_cases hj : i = j
    · subst hj
      have hl : i < ρ.length := (List.getElem?_eq_some_iff.mp ei).1
      rw [List.getElem?_set_self hl] at e
      cases e
      exact ⟨_, es, .ref p, rfl, .lst (SqL.of upd_same) (h6.up ex)⟩
    · rw [List.getElem?_set_ne hj] at e
      obtain ⟨o, e1, e2⟩ := sl.ok j s e
      refine ⟨o, e1, ?_⟩
      cases s with
      | no => trivial
      | d x =>
        obtain ⟨v, e3, e4⟩ := e2
        exact ⟨v, e3, e4.up ex⟩
      | st => exact ⟨e2.1, frz_st h3 h4 h5 e2.2⟩
      | ol zs =>
        obtain ⟨q, ws, e3, e4, e5, e6, e7, e9, e8⟩ := e2
        have hqp : q ≠ p := fun z => by
          subst z
          exact sl.ap i j q xs zs hj ei e es (by rw [e1, e3])
        exact ⟨q, ws, e3, e4, by rw [upd_ne hqp]; exact e5, e6, e7, e9, e8.up ex⟩
      | me y C ms es2 =>
        obtain ⟨e3, dx, fs, e4, e5, e6, e7, e8, e9, e10⟩ := e2
        exact ⟨e3, dx, fs, e4, by rw [upd_ne (fun z => by rw [z, h1] at e4; cases e4)]; exact e5, e6, e7, e8, e9, e10.up ex⟩
      | od ks es2 =>
        obtain ⟨q, kvs, e3, e4, e5, e6, e7, e8, e9, e10⟩ := e2
        exact ⟨q, kvs, e3, e4, by rw [upd_ne (fun z => by rw [z, h1] at e4; cases e4)]; exact e5, e6, e7, e8, e9, e10.up ex⟩
      | ot ks es2 =>
        obtain ⟨q, kvs, e3, e4, e5, e6, e7, e8, e9, e10⟩ := e2
        exact ⟨q, kvs, e3, e4, by rw [upd_ne (fun z => by rw [z, h1] at e4; cases e4)]; exact e5, e6, e7, e8, e9, e10.up ex⟩
      | fv F =>
        obtain ⟨f, c, e3, e4, e5, e5b, rest⟩ := e2
        have hc : c ≠ p := fun z => by
          rw [z, h1] at e5
          exact codeO_no (o := .lst vs) (fun _ z => by cases z) (Option.some.inj e5)
        exact ⟨f, c, e3, ex _ _ e4, e5, (fun o z => by rw [upd_ne hc] at z; exact e5b o z), rest⟩
  ap := fun j k q ys zs hjk ej ek sj sk => by
    have f : ∀ {m : Nat} {u : List D}, (ρ.set i (.d (.lst xs)))[m]? = some (.ol u) → ρ[m]? = some (.ol u) := fun {m u} e => by
      by_cases hm : i = m
      · subst hm
        have hl : i < ρ.length := (List.getElem?_eq_some_iff.mp ei).1
        rw [List.getElem?_set_self hl] at e
        cases e
      · rw [List.getElem?_set_ne hm] at e
        exact e
    exact sl.ap j k q ys zs hjk (f ej) (f ek) sj sk
/-- from here on the list in slot i is frozen -/
def xsFrz (i : Nat) (G : DTS) : DTS := fun DD ρ n XP => slotO ρ i fun xs => G DD (ρ.set i (.d (.lst xs))) n XP
theorem rds_frz {i : Nat} {t : TS} {G : DTS} (h1 : RdS K T S E t G) : RdS K T S E t (xsFrz i G) := fun σ ρ Hb0 H0 n0 Hb H n DD XP D a sl h q x => by
  obtain ⟨xs, p, vs, e, es, e3, e4, e5, e6, e8, e7, h⟩ := sl.sl.own h
  have f0 : Fresh H0 p := sl.fr i _ p e rfl es
  have a' := a.freeze (o := .lst vs) f0 e4 (by rw [e3]; exact fun z => by cases z) (fun ps z => by rw [e3] at z; cases z) (fun c u z => by rw [e3] at z; exact codeO_no (o := .lst vs) (fun _ z => by cases z) (Option.some.inj z)) e5 e6 e8
  rw [upd_id e3] at a'
  refine h1 σ _ Hb0 H0 n0 _ H n DD XP D a' ⟨frz_slots sl.sl e es e3 e4 e5 e6 e8 e7, fun j s r ej eo sj => ?_⟩ h (q.up (Ex.new e4)) x
  by_cases hj : i = j
  · subst hj
    have hl : i < ρ.length := (List.getElem?_eq_some_iff.mp e).1
    rw [List.getElem?_set_self hl] at ej
    cases ej
    cases eo
  · rw [List.getElem?_set_ne hj] at ej
    exact sl.fr j s r ej eo sj
/-- a step from where the list at p counts as frozen, told from where it does not -/
theorem Stp.unview {p : Addr} {vs : List V} {Hb' H' : Hp} {n' : Nat} (h1 : H p = some (.lst vs)) (h2 : Hb p = none) (h3 : p ≠ S.a) (h4 : p ≠ S.l) (h5 : p ≠ S.c) (s : Stp K T S (upd Hb p (.lst vs)) H n Hb' H' n') :
    Stp K T S Hb H n (fun b => if b = p then none else Hb' b) H' n' where
  ex := fun b u e => by
    have hb : b ≠ p := fun z => by rw [z, h2] at e; cases e
    show (if b = p then none else Hb' b) = some u
    rw [if_neg hb]
    exact s.ex b u (by rw [upd_ne hb]; exact e)
  wd := by
    have g : ∀ {b : Addr} {o : HO}, (if b = p then none else Hb' b) = some o → Hb' b = some o := fun {b o} e => by
      by_cases hb : b = p
      · rw [if_pos hb] at e; cases e
      · rw [if_neg hb] at e; exact e
    refine ⟨fun b o e => s.wd.ex b o (g e), s.wd.tabs, fun q hq => ?_, s.wd.sa, s.wd.sl, s.wd.sc, fun b ps z => s.wd.nt b ps (g z)⟩
    show (if q.1 = p then none else Hb' q.1) = none
    by_cases hb : q.1 = p
    · rw [if_pos hb]
    · rw [if_neg hb]; exact s.wd.tb q hq
  st := fun h0 => by
    obtain ⟨g1, g2, ls, cs, m, t, g3, g4, g5, g6, g7, g8, rest⟩ := s.st (frz_st h3 h4 h5 h0)
    refine ⟨?_, ?_, ls, cs, m, t, g3, g4, g5, g6, g7, ?_, rest⟩
    · show (if S.a = p then none else Hb' S.a) = none
      rw [if_neg h3.symm]; exact g1
    · show (if S.l = p then none else Hb' S.l) = none
      rw [if_neg h4.symm]; exact g2
    · show (if S.c = p then none else Hb' S.c) = _
      rw [if_neg h5.symm]; exact g8
  own := fun q o e1 e2 e3 e4 e5 => by
    by_cases hq : q = p
    · subst hq
      rw [h1] at e1
      cases e1
      exact ⟨s.wd.ex _ _ (s.ex _ _ upd_same), if_pos rfl⟩
    · obtain ⟨g1, g2⟩ := s.own q o e1 (by rw [upd_ne hq]; exact e2) e3 e4 e5
      exact ⟨g1, by show (if q = p then none else Hb' q) = none; rw [if_neg hq]; exact g2⟩
  dm := s.dm
theorem Dn.flat {v : V} {d : D} (h : Dn K Hb v d) (f : flatD d = true) : Dn K Hb1 v d := by
  cases h with
  | non => exact .non
  | bl b => exact .bl b
  | int i => exact .int i
  | str x => exact .str x
  | _ => cases f
def xtView (i : Nat) (F : DTT) : DTT := fun ρ n P _ => slotO ρ i fun xs => F (ρ.set i (.d (.lst xs))) n P xF
theorem rdt_view {i : Nat} {tt : TT} {F : DTT} (h1 : RdT K T S E tt F) : RdT K T S E tt (xtView i F) := fun σ ρ Hb H n P XP Q w sl h q x => by
  obtain ⟨xs, p, vs, e, es, e3, e4, e5, e6, e8, e7, h⟩ := sl.own h
  exact h1 σ _ _ H n _ xF _ (frz_world w e3) (frz_slots sl e es e3 e4 e5 e6 e8 e7) h (fun b n' Hb' H' s pp => q b n' _ H' (s.unview e3 e4 e5 e6 e8) pp) .none

/-! ### while -/
def xsWhile (F : DTT) (B : DTS) : DTS := fun DD ρ n XP => ∃ I : Nat → List SV → Nat → Prop, (∃ m, I m ρ n) ∧ ∀ m ρ n, I m ρ n →
  F ρ n (fun b n1 => match b with
    | true => B { DD with nx := fun ρ' n' => ∃ m', m' < m ∧ I m' ρ' n', ct := fun ρ' n' => ∃ m', m' < m ∧ I m' ρ' n', bk := DD.nx } ρ n1 XP
    | false => DD.nx ρ n1) XP
theorem rds_while {c : TT} {tb : TS} {F : DTT} {B : DTS} (hc : RdT K T S E c F) (hb : RdS K T S E tb B) : RdS K T S E (tWhile c tb) (xsWhile F B) := fun σ ρ Hb0 H0 n0 Hb H n DD XP D a sl h q x => by
  obtain ⟨I, ⟨m0, i0⟩, it⟩ := h
  refine ⟨fun m σ2 H2 => ∃ ρ2 n2 Hb2, Ex Hb Hb2 ∧ Stp K T S Hb0 H0 n0 Hb2 H2 n2 ∧ Sl0 K S H0 Hb2 H2 n2 ρ2 σ2 ∧ I m ρ2 n2, ⟨m0, ρ, n, Hb, Ex.refl _, a, sl, i0⟩, ?_⟩
  rintro m σ2 H2 ⟨ρ2, n2, Hb2, e2, s2, sl2, hI⟩
  refine hc σ2 ρ2 Hb2 H2 n2 _ XP _ s2.wd sl2.sl (it m ρ2 n2 hI) (fun b n3 Hb3 H3 s3 p3 => ?_) (x.step s2)
  cases b with
  | false => exact iteF (q.nx ρ2 σ2 n3 Hb3 H3 (e2.trans s3.ex) (s2.trans s3) (sl2.step s3) p3)
  | true =>
    have e3 := e2.trans s3.ex
    refine iteT ⟨fun σ' H' => ∃ m', m' < m ∧ ∃ ρ' n' Hb', Ex Hb Hb' ∧ Stp K T S Hb0 H0 n0 Hb' H' n' ∧ Sl0 K S H0 Hb' H' n' ρ' σ' ∧ I m' ρ' n', fun σ' H' ⟨m', h1, h2⟩ => ⟨m', h1, h2⟩, ?_⟩
    exact hb σ2 ρ2 Hb0 H0 n0 Hb3 H3 n3 _ XP _ (s2.trans s3) (sl2.step s3) p3 ⟨fun ρ4 σ4 n4 Hb4 H4 e4 s4 sl4 ⟨m', h1, h2⟩ => ⟨m', h1, ρ4, n4, Hb4, e3.trans e4, s4, sl4, h2⟩, q.rt, q.nx.up e3, fun ρ4 σ4 n4 Hb4 H4 e4 s4 sl4 ⟨m', h1, h2⟩ => ⟨m', h1, ρ4, n4, Hb4, e3.trans e4, s4, sl4, h2⟩⟩ x

/-! ### new lists -/
def xnNil : DTL := fun _ n P _ => P [] n
theorem rdn_nil : RdN K T S E (tLst tNil) xnNil := fun σ ρ Hb H n P XP Q w sl h q x => by
  refine ⟨Nat.zero_le _, fun a hp => ?_⟩
  exact q [] a [] n Hb (upd H a (.lst [])) (.newO w hp) (fresh_none hp) upd_same (free_of w.ex hp) .nil h
def xnLst (G : DTA) : DTL := fun ρ n P XP => G ρ n (fun ss n1 => ∃ ds, allD ss = some ds ∧ ds.length ≤ 100000 ∧ P ds n1) XP
theorem rdn_lst {ta : TA} {G : DTA} (h1 : RdA K T S E ta G) : RdN K T S E (tLst ta) (xnLst G) := fun σ ρ Hb H n P XP Q w sl h q x =>
  h1 σ ρ Hb H n _ XP _ w sl h (fun ss vs n1 Hb1 H1 s ha p => by
    obtain ⟨ds, e, hl, p⟩ := p
    have hd := ha.allD e
    refine ⟨sz_of (by rw [hd.len]; exact hl), fun a hp => ?_⟩
    exact q ds a vs n1 Hb1 _ (s.trans (.newO s.wd hp)) (s.dm a (fresh_none hp)) upd_same (free_of s.wd.ex hp) hd p) x
def xnList (F : DT) : DTL := fun ρ n P XP => F ρ n (fun d n1 => seqD d fun xs => P xs n1) XP
theorem rdn_list (h1 : DL.Rd K T S E te FE) : RdN K T S E (tCB (rListU K) (tCons te tNil)) (xnList FE) := fun σ ρ Hb H n P XP Q w sl h q x =>
  h1 σ ρ Hb H n _ XP _ w sl h (fun d v n1 Hb1 H1 s hd p => by
    cases hd with
    | @lst a vs ds g1 g2 => exact ⟨a, vs, rfl, .inl (ex_l s.wd.ex g1), fun l hp => q ds l vs n1 Hb1 _ (s.trans (.newO s.wd hp)) (s.dm l (fresh_none hp)) upd_same (free_of s.wd.ex hp) g2 p⟩
    | @tup a vs ds g1 g2 => exact ⟨a, vs, rfl, .inr (ex_t s.wd.ex g1), fun l hp => q ds l vs n1 Hb1 _ (s.trans (.newO s.wd hp)) (s.dm l (fresh_none hp)) upd_same (free_of s.wd.ex hp) g2 p⟩
    | _ => exact p.elim) x
/-- data, or a new list of one's own -/
def MOk (K : PySem.W.Frag) (H0 Hb H : Hp) : SV → V → Prop
  | .d d, v => Dn K Hb v d
  | .ol xs, v => ∃ p vs, v = .ref p ∧ Fresh H0 p ∧ H p = some (.lst vs) ∧ Hb p = none ∧ DnA K Hb vs xs
  | _, _ => False
abbrev DTM := List SV → Nat → (SV → Nat → Prop) → DX → Prop
def RdM (K : PySem.W.Frag) (T : Tb) (S : SA) (E : XK) (te : TE) (F : DTM) : Prop :=
  ∀ σ ρ Hb H n P XP (Q : VK), World T S Hb H → Slots K S Hb H n ρ σ → F ρ n P XP → (∀ s v n' Hb' H', Stp K T S Hb H n Hb' H' n' → MOk K H Hb' H' s v → P s n' → Q v H') → XOk K T S Hb H n XP E → te σ H Q
def xmD (F : DT) : DTM := fun ρ n P XP => F ρ n (fun d n1 => P (.d d) n1) XP
def xmN (F : DTL) : DTM := fun ρ n P XP => F ρ n (fun xs n1 => P (.ol xs) n1) XP
theorem rdm_n {F : DTL} (h1 : RdN K T S E te F) : RdM K T S E te (xmN F) := fun σ ρ Hb H n P XP Q w sl h q x =>
  h1 σ ρ Hb H n _ XP _ w sl h (fun xs p vs n1 Hb1 H1 s hp e1 e2 hd pp => q (.ol xs) _ n1 Hb1 H1 s ⟨p, vs, rfl, hp, e1, e2, hd⟩ pp) x
theorem MOk.step {H0 : Hp} {s : SV} {v : V} (m : MOk K H0 Hb H s v) (w0 : World T S Hb1 H0) (a : Stp K T S Hb H n Hb2 H2 n2) : MOk K H0 Hb2 H2 s v := by
  cases s with
  | d d => exact Dn.up a.ex m
  | ol xs =>
    obtain ⟨p, vs, rfl, hp, e1, e2, hd⟩ := m
    obtain ⟨m1, m2, m3⟩ := w0.nS hp
    obtain ⟨g1, g2⟩ := a.own p _ e1 e2 m1 m2 (fun ps z => by cases z)
    exact ⟨p, vs, rfl, hp, g1, g2, hd.up a.ex⟩
  | _ => exact m.elim
/-- a slot gets data or a new list -/
theorem Sl0.setM {Hb0 H0 Ha Hc : Hp} {n0 m : Nat} {ρ : List SV} {σ : L2.St} {i : Nat} {s : SV} {v : V} (a : Stp K T S Hb0 H0 n0 Hc Ha m) (sl : Sl0 K S H0 Hb H n ρ σ) (h : MOk K Ha Hb H s v) (ha : ∀ (j : Nat) (ys : List D) (p : Addr), ρ[j]? = some (.ol ys) → σ[j]? = some (some (.ref p)) → v = .ref p → isOwn s = true → False) :
    Sl0 K S H0 Hb H n (ρ.set i s) (σ.set i (some v)) := by
  cases s with
  | d d => exact sl.set h
  | ol xs =>
    obtain ⟨p, vs, rfl, hp, e1, e2, hd⟩ := h
    obtain ⟨m1, m2, m3⟩ := a.wd.nS hp
    refine ⟨sl.sl.setO e1 e2 m1 m2 m3 hd fun j ys ej sj => ha j ys p ej sj rfl rfl, fun j xs r ej eo sj => ?_⟩
    by_cases hj : i = j
    · subst hj
      have hl : i < ρ.length := by
        have := (List.getElem?_eq_some_iff.mp ej).1
        rwa [List.length_set] at this
      rw [List.getElem?_set_self (by rw [← sl.sl.len]; exact hl)] at sj
      have er : p = r := V.ref.inj (Option.some.inj (Option.some.inj sj))
      rw [← er]
      exact a.dm p hp
    · rw [List.getElem?_set_ne hj] at ej sj
      exact sl.fr j xs r ej eo sj
  | _ => exact h.elim
/-- nobody's list is the new one -/
theorem MOk.apart {Ha : Hp} {ρ : List SV} {σ : L2.St} {Hc : Hp} {m : Nat} {s : SV} {v : V} (sl : Slots K S Hc Ha m ρ σ) (h : MOk K Ha Hb H s v) : ∀ (j : Nat) (ys : List D) (p : Addr), ρ[j]? = some (.ol ys) → σ[j]? = some (some (.ref p)) → v = .ref p → isOwn s = true → False := fun j ys p ej sj ev eo => by
  cases s with
  | d d => cases eo
  | ol xs =>
    obtain ⟨r, vs, rfl, hp, e1, e2, hd⟩ := h
    cases ev
    obtain ⟨o, g1, q, ws, g2, g3, _⟩ := sl.ok j _ ej
    rw [g1, g2] at sj
    have er : q = p := V.ref.inj (Option.some.inj (Option.some.inj sj))
    rw [er] at g3
    exact absurd rfl (hp.ne g3 fun _ z => by cases z)
  | _ => exact h.elim
/-- a, b = e1, e2: data or new lists -/
def xsParM (i j : Nat) (F G : DTM) : DTS := fun DD ρ n XP => F ρ n (fun s n1 => G ρ n1 (fun t n2 => DD.nx ((ρ.set i s).set j t) n2) XP) XP
theorem rds_parM {i j : Nat} {te2 : TE} {F G : DTM} (h1 : RdM K T S E te F) (h2 : RdM K T S E te2 G) : RdS K T S E (tPar i j (tCons te (tCons te2 tNil))) (xsParM i j F G) := fun σ ρ Hb0 H0 n0 Hb H n DD XP D a sl h q x =>
  h1 σ ρ Hb H n _ XP _ a.wd sl.sl h (fun s v n1 Hb1 H1 s1 m1 p => h2 σ ρ Hb1 H1 n1 _ XP _ s1.wd (sl.step s1).sl p (fun t u n2 Hb2 H2 s2 m2 p2 => by
    have m1' := m1.step a.wd s2
    have sl2 := (sl.step s1).step s2
    refine ⟨v, u, rfl, q.nx _ _ n2 Hb2 H2 (s1.ex.trans s2.ex) ((a.trans s1).trans s2) (Sl0.setM (a.trans s1) (Sl0.setM a sl2 m1' (m1.apart sl.sl)) m2 fun k ys r ek sk ev eo => ?_) p2⟩
    -- the second list is not the first one
    by_cases hk : i = k
    · subst hk
      have hl : i < ρ.length := by
        have := (List.getElem?_eq_some_iff.mp ek).1
        rwa [List.length_set] at this
      rw [List.getElem?_set_self hl] at ek
      rw [List.getElem?_set_self (by rw [← sl.sl.len]; exact hl)] at sk
      cases ek
      obtain ⟨r', ws, e0, hp, e1, e2, hd⟩ := m1
      subst e0
      have er : r' = r := V.ref.inj (Option.some.inj (Option.some.inj sk))
      subst er
      cases t with
      | d d => cases eo
      | ol zs =>
        obtain ⟨r2, us, e0, hp2, _⟩ := m2
        rw [ev] at e0
        cases e0
        exact absurd rfl (hp2.ne e1 fun _ z => by cases z)
      | _ => exact m2.elim
    · rw [List.getElem?_set_ne hk] at ek sk
      exact m2.apart (sl.step s1).sl k ys r ek sk ev eo) (((x.step a).step s1))) (x.step a)

/-! ### pops -/
/-- x = xs.pop(e), xs of one's own -/
def xsSetPop (i j : Nat) (F : DT) : DTS := fun DD ρ n XP => slotO ρ j fun xs => F ρ n (fun d n1 => match d with
  | .int k => ∃ (m : Nat) (y : D), k = (m : Int) ∧ m < 2 ^ 62 ∧ xs[m]? = some y ∧ DD.nx ((ρ.set j (.ol (xs.eraseIdx m))).set i (.d y)) n1
  | _ => False) XP
theorem DnA.erase : ∀ (m : Nat) {vs : List V} {ds : List D}, DnA K H vs ds → DnA K H (vs.eraseIdx m) (ds.eraseIdx m)
  | _, _, _, .nil => by simp; exact .nil
  | 0, _, _, .cons h1 h2 => by simpa using h2
  | m + 1, _, _, .cons h1 h2 => by simpa using DnA.cons h1 (DnA.erase m h2)
theorem pop_ix {m l : Nat} (h : m < l) : seqIndex? (m : Int) l = some m := by
  have h0 : (0 : Int) ≤ (m : Int) := Int.natCast_nonneg m
  have h1 : (m : Int) < (l : Int) := by omega
  rw [PySem.seqIndex_of h0 h1]
  simp
theorem rds_setPop {i j : Nat} (h1 : DL.Rd K T S E te FE) : RdS K T S E (tAsg (tBM K "list" rPopAt (tVar j) (tCons te tNil)) (gName i)) (xsSetPop i j FE) := fun σ ρ Hb0 H0 n0 Hb H n DD XP D a sl h q x => by
  obtain ⟨xs, p, vs, e, es, e3, e4, e5, e6, e8, e7, h⟩ := sl.sl.own h
  refine ⟨.ref p, es, .inl ⟨rfl, vs, SqL.of e3⟩, ?_⟩
  refine h1 σ ρ Hb H n _ XP _ a.wd sl.sl h (fun d v n1 Hb1 H1 s hd pp => ?_) (x.step a)
  obtain ⟨g1, g2⟩ := s.own p _ e3 e4 e5 e6 (fun ps z => by cases z)
  have h7 := e7.up s.ex
  cases hd with
  | int k =>
    obtain ⟨m, y, rfl, hm, hy, pp⟩ := pp
    obtain ⟨u, eu, hu⟩ := h7.get hy
    have hml : m < vs.length := (List.getElem?_eq_some_iff.mp eu).1
    refine ⟨p, vs, _, m, u, rfl, rfl, g1, by omega, by omega, pop_ix hml, eu, ?_⟩
    have z := own_stmt (us := vs.eraseIdx m) (ys := xs.eraseIdx m) (DD := { nx := fun ρ' n' => DD.nx (ρ'.set i (.d y)) n', rt := DD.rt, bk := DD.bk, ct := DD.ct }) (D := { D with nx := fun σ' H' => D.nx (σ'.set i (some u)) H' }) (a.trans s) (sl.step s) ⟨fun ρ' σ' n' Hb' H' e' s' sl' p' => ?_, q.rt, q.bk.up s.ex, q.ct.up s.ex⟩ e es g1 g2 e5 e6 e8 (DnA.erase m h7) pp
    · exact z
    · exact q.nx _ _ n' Hb' H' (s.ex.trans e') s' (sl'.set (hu.up e')) p'
  | _ => exact pp.elim
/-- ys.append(xs.pop(e)), both of one's own -/
def xsAppPop (i j : Nat) (F : DT) : DTS := fun DD ρ n XP => i ≠ j ∧ slotO ρ i fun ys => slotO ρ j fun xs => F ρ n (fun d n1 => match d with
  | .int k => ∃ (m : Nat) (y : D), k = (m : Int) ∧ m < 2 ^ 62 ∧ xs[m]? = some y ∧ ys.length < 100000 ∧ DD.nx ((ρ.set j (.ol (xs.eraseIdx m))).set i (.ol (ys ++ [y]))) n1
  | _ => False) XP
theorem rds_appPop {i j : Nat} (h1 : DL.Rd K T S E te FE) : RdS K T S E (tDrop (tBM K "list" rAppend (tVar i) (tCons (tBM K "list" rPopAt (tVar j) (tCons te tNil)) tNil))) (xsAppPop i j FE) := fun σ ρ Hb0 H0 n0 Hb H n DD XP D a sl h q x => by
  obtain ⟨hij, h⟩ := h
  obtain ⟨ys, r, ws, f, fs, f3, f4, f5, f6, f8, f7, h⟩ := sl.sl.own h
  obtain ⟨xs, p, vs, e, es, e3, e4, e5, e6, e8, e7, h⟩ := sl.sl.own h
  have hrp : r ≠ p := fun z => by
    subst z
    exact sl.sl.ap i j r ys xs hij f e fs es
  refine ⟨.ref r, fs, .inl ⟨rfl, ws, SqL.of f3⟩, ?_⟩
  refine ⟨.ref p, es, .inl ⟨rfl, vs, SqL.of e3⟩, ?_⟩
  refine h1 σ ρ Hb H n _ XP _ a.wd sl.sl h (fun d v n1 Hb1 H1 s hd pp => ?_) (x.step a)
  obtain ⟨g1, g2⟩ := s.own p _ e3 e4 e5 e6 (fun ps z => by cases z)
  obtain ⟨k1, k2⟩ := s.own r _ f3 f4 f5 f6 (fun ps z => by cases z)
  have h7 := e7.up s.ex
  have j7 := f7.up s.ex
  cases hd with
  | int k =>
    obtain ⟨m, y, rfl, hm, hy, hl, pp⟩ := pp
    obtain ⟨u, eu, hu⟩ := h7.get hy
    have hml : m < vs.length := (List.getElem?_eq_some_iff.mp eu).1
    refine ⟨p, vs, _, m, u, rfl, rfl, g1, by omega, by omega, pop_ix hml, eu, ?_⟩
    have z := own_stmt (us := vs.eraseIdx m) (ys := xs.eraseIdx m) (DD := { nx := fun ρ' n' => ρ' = ρ.set j (.ol (xs.eraseIdx m)) ∧ n' = n1, rt := DD.rt, bk := DD.bk, ct := DD.ct })
      (D := { D with nx := fun σ' H' => σ' = σ ∧ H' = upd H1 p (.lst (vs.eraseIdx m)) → rAppend (.ref r) [u] H' fun _ H2 => D.nx σ H2 }) (a.trans s) (sl.step s) ⟨fun ρ' σ' n' Hb' H' e' s' sl' p' e9 => ?_, q.rt, q.bk.up s.ex, q.ct.up s.ex⟩ e es g1 g2 e5 e6 e8 (DnA.erase m h7) ⟨rfl, rfl⟩ ⟨rfl, rfl⟩
    · exact z
    · obtain ⟨rfl, rfl⟩ := e9
      obtain ⟨rfl, rfl⟩ := p'
      have hk : upd H1 p (.lst (vs.eraseIdx m)) r = some (.lst ws) := by rw [upd_ne hrp]; exact k1
      have ei : (ρ.set j (.ol (xs.eraseIdx m)))[i]? = some (.ol ys) := by rw [List.getElem?_set_ne (Ne.symm hij)]; exact f
      have hbr : Hb' r = none := by
        obtain ⟨o, g1', r', ws', g2', g3', g4', _⟩ := sl'.sl.ok i _ ei
        rw [fs] at g1'
        cases g1'
        cases g2'
        exact g4'
      refine ⟨r, ws, u, rfl, rfl, hk, Evl.sz_lt (by rw [j7.len]; exact hl), ?_⟩
      exact own_stmt s' sl' (q.up (s.ex.trans e')) ei fs hk hbr f5 f6 f8 ((j7.up e').app (.one (hu.up e'))) pp
  | _ => exact pp.elim
/-- return xs, xs of one's own -/
theorem rds_retO {i : Nat} : RdS K T S E (tRet (tVar i)) (xsFrz i (xsRet (xVar i))) := rds_frz (rds_ret rd_var)
end
end DL

/-! enumerate of a tuple -/
namespace RZ
open PySem PySem.Spec PyProof.Rows L2
open AutoSeq1 (wpAny_loadPart')
set_option maxHeartbeats 1000000 in
theorem meets_enumT (l : Addr) (items : Array Value) (o : Obj) (hc : o.cls = .type "tuple") (hd : ∃ n, o.data = .seq items n) :
    Meets (Builtin.«enumerate.__new__» ⟨[.type "enumerate", .ref l], []⟩) (fun _ R s => s.heap.get? l = some o ∧
      R (.ok (.ret (.ref (s.heap.push { cls := .type "tuple_iterator", data := .fields #[.ref l, .int 0 0] }).objs.size)))
        { s with heap := (s.heap.push { cls := .type "tuple_iterator", data := .fields #[.ref l, .int 0 0] }).push { cls := .type "enumerate", data := .fields #[.none, .bool false, .ref s.heap.objs.size, rawInt 0, .none, .none] } }) :=
  .of_wp fun prog w A R s h => by
    obtain ⟨oc, dct, dt, sl⟩ := o
    obtain ⟨n, hd⟩ := hd
    dsimp only at hc hd
    subst hc hd
    obtain ⟨hp, g, d, tk, os⟩ := s
    obtain ⟨hl, h⟩ := h
    have hsub := sub_enumerate
    have hL : Heap.IsTuple (Shared.heap ⟨hp, g, d, tk, os⟩) l items := ⟨_, hl, rfl, n, rfl⟩
    wp_walk using wpAny_loadPart' hl
    refine wpAny_stack_any fun st => wpAny_pure ?_
    split
    · rename_i c _ _ _ _ _
      cases (c == Value.type "enumerate") <;> (wp_walk using wpAny_loadPart' hl, wpAny_pyIter_tuple hL; exact ⟨_, rfl, h⟩)
    · wp_walk using wpAny_loadPart' hl, wpAny_pyIter_tuple hL
      exact ⟨_, rfl, h⟩
section
variable {prog : Program} {w : World} {A : Around} {E : Value → Shared → Prop} {s : Shared}
theorem call_enumT {l : Addr} {items : Array Value} {Q : Value → Shared → Prop} (hL : s.heap.IsTuple l items)
    (h : ∀ h', IsEnum h' (s.heap.objs.size + 1) s.heap.objs.size 0 .none → h'.IsTupleIter s.heap.objs.size l 0 → h'.objs.size = s.heap.objs.size + 2 →
      (∀ b o, s.heap.get? b = some o → h'.get? b = some o) → Q (.ref (s.heap.objs.size + 1)) { s with heap := h' }) :
    wpAny (model prog w) A (call (.type "enumerate") [.ref l]) Q E s := by
  obtain ⟨o, hl, hc, hd⟩ := hL
  refine callType_new F.called_enumerate (by decide) (F.typeCall_enumerate_1 _) (F.newCall_enumerate_1 _) (fun obj => F.args_object_init_2 obj _) F.entry_enumerate_new
    (meets_enumT l items o hc hd) ⟨hl, ?_⟩
  have hz : (s.heap.push { cls := .type "tuple_iterator", data := .fields #[.ref l, .int 0 0] }).objs.size = s.heap.objs.size + 1 := Heap.size_push ..
  show _ ∧ _
  rw [hz]
  have he : IsEnum ((s.heap.push { cls := .type "tuple_iterator", data := .fields #[.ref l, .int 0 0] }).push
      { cls := .type "enumerate", data := .fields #[.none, .bool false, .ref s.heap.objs.size, rawInt 0, .none, .none] }) (s.heap.objs.size + 1) s.heap.objs.size 0 .none := by
    have z := Heap.get?_push_size (s.heap.push { cls := .type "tuple_iterator", data := .fields #[.ref l, .int 0 0] })
      (o := { cls := .type "enumerate", data := .fields #[.none, .bool false, .ref s.heap.objs.size, rawInt 0, .none, .none] }) rfl
    rw [hz] at z
    exact z
  exact ⟨⟨_, he, rfl⟩, h _ he ⟨_, Heap.get?_push_of_some _ (Heap.get?_push_size _ rfl), rfl, rfl⟩ (by rw [Heap.size_push, hz]) fun b o x => Heap.get?_push_of_some _ (Heap.get?_push_of_some _ x)⟩
end
/-- the tuple at a, each item in a new pair -/
def IteT (K : PySem.W.Frag) (a : Addr) : It :=
  ⟨fun i H => ∃ (xs : List V) (x : V), SqT K H a xs ∧ xs[i]? = some x, fun i H v H' => ∃ T x, v = .ref T ∧ H T = none ∧ H' = upd H T (.tup [.int (i : Nat), x]) ∧ ∀ xs, SqT K H a xs → xs[i]? = some x, fun i H => ∃ xs : List V, SqT K H a xs ∧ xs.length ≤ i⟩
theorem turn_enumT {P : Program} {w : World} {K : PySem.W.Frag} {elts : List Expr} {kk : Nat} {tpos : Pos} (a e it : Addr) :
    Turn P w K (.Tuple elts kk tpos) (IteT K a) [e, it] e (fun i h => (∃ old, IsEnum h e it ((i : Nat) : Int) old) ∧ h.IsTupleIter it a i ∧ e ≠ it ∧ e ≠ a ∧ a ≠ it) where
  mem := by simp
  obj := fun i h st b hb => by
    obtain ⟨⟨old, he⟩, ⟨o, ho, hc, hd⟩, _⟩ := st
    rcases List.mem_cons.mp hb with z | hb
    · rw [z]; exact ⟨_, he, fun v q => nomatch q⟩
    · rw [List.mem_singleton.mp hb]; exact ⟨o, ho, fun v q => by rw [hd] at q; cases q⟩
  keep := fun i h h' st k => let ⟨⟨old, he⟩, hi, hne⟩ := st; ⟨⟨old, k e (by simp) _ he⟩, hi.at fun o q => k it (by simp) o q, hne⟩
  item := by
    intro X hP hw hK hc i pins s σ H E I hf st hg
    subst hP hw hK
    obtain ⟨⟨old, he⟩, hit, hne, hea, hai⟩ := st
    obtain ⟨xs, x, hq, hx⟩ := hg
    obtain ⟨its, rv, p, hz⟩ := I.tuple hq
    obtain ⟨u, hu, ru⟩ := rv.get hx
    have hu' : its.toArray[i]? = some u := by simpa using hu
    have hel : e < s.heap.objs.size := Heap.lt_size he
    have hil : it < s.heap.objs.size := by obtain ⟨_, q, _⟩ := hit; exact Heap.lt_size q
    have hlt : i < its.toArray.size := (Array.getElem?_eq_some_iff.mp hu').1
    have hd : X.A.in1.handled = none := I.ok.hd hc
    refine wpAny_pyNext_enum_itemC (A := X.A) (Draws.tuple (prog := X.prog) (w := X.w) (A := X.A.in1) hd it a hai its.toArray) he ⟨hit, p⟩ hlt hne (by simp [hne, hea]) fun u' h' tk hP ho hit' hT hsz hk => ?_
    have eu : u' = u := by
      have z : its.toArray[i]? = some u' := hP
      rw [hu'] at z
      exact (Option.some.inj z).symm
    subst eu
    refine ⟨_, rfl, wpAny_letOwnedTupleGo_enum (s := { s with heap := h', toks := tk + 1 }) ho fun h'' he' sb => ?_⟩
    have hT2 : h''.get? s.heap.objs.size = some { cls := .type "tuple", data := .seq #[.int i tk, u'] } := (sb.2 _ (Nat.ne_of_gt hel)).trans hT
    have new : ObjOk X.prog X.w (upd H s.heap.objs.size (.tup [.int (i : Nat), x])) h'' s.heap.objs.size (.tup [.int (i : Nat), x]) :=
      ⟨by show 2 ≤ sizeLine; decide, [.int i tk, u'], .cons ⟨_, rfl⟩ (.cons ru .nil), ⟨_, hT2, rfl, _, rfl⟩⟩
    have I1 : Inv X pins σ (upd H s.heap.objs.size (.tup [.int (i : Nat), x])) { s with heap := h'', toks := tk + 1 } :=
      I.turnedNew (ch := [e, it]) (fun b ob hb q => (sb.2 b (fun z => hb (by simp [z]))).trans (hk b ob (fun z => hb (by simp [z])) (fun z => hb (by simp [z])) q)) hf (Nat.le_refl _) new
    refine ⟨.ref s.heap.objs.size, _, I1, rfl, ⟨_, x, rfl, I.hok.fresh (Nat.le_refl _), rfl, fun ys hy => by rw [I.tuple_inj hy hq]; exact hx⟩, ⟨⟨u', ?_⟩, hit'.1.at fun o q => (sb.2 it (Ne.symm hne)).trans q, hne, hea, hai⟩, fun b hb => ?_⟩
    · have e1 : ((i + 1 : Nat) : Int) = (i : Int) + 1 := by omega
      rw [e1]; exact he'
    · have hb' : b < s.heap.objs.size := by
        rcases List.mem_cons.mp hb with z | hb
        · rw [z]; exact hel
        · rw [List.mem_singleton.mp hb]; exact hil
      rw [upd_ne (Nat.ne_of_lt hb')]
      exact (hf b hb).1
  done := by
    intro X hP hw hK hc i pins s σ H E I hf st hg
    subst hP hw hK
    obtain ⟨⟨old, he⟩, hit, hne, hea, hai⟩ := st
    obtain ⟨xs, hq, hx⟩ := hg
    obtain ⟨its, rv, p, hz⟩ := I.tuple hq
    obtain ⟨f0, f1, f2, f3, f4, f5⟩ := hf it (by simp)
    have hl := rv.length
    have hT : s.TypeIs (.ref e) "enumerate" := ⟨_, he, rfl⟩
    have hd : X.A.handled = none := I.ok.hd hc
    unfold pyNext
    refine wpAny_bind (wpAny_attempt (wpAny_callSpecial?_slot (name := Str.ofString "__next__") hT F.slot_enumerate_next
      (wpAny_call_entry F.slot_enumerate_next hT F.entry_enumerate_next ?_ (F.args_enumerate_next_1 _))))
    show wpAny _ _ (field (.ref e) 2 >>= _) _ _ _
    refine wpAny_bind (wpAny_field he rfl (x := .ref it) rfl ?_)
    show wpAny _ _ (Builtin.SmallTypes.nextOf (.ref it) >>= _) _ _ _
    refine wpAny_bind (nextOf_tuple_end hd hit p (by simp; omega) fun h' ee hs he2 => ?_)
    obtain ⟨o, ho, hcl⟩ := he2
    refine wpAny_bind (wpAny_isInstance (T := "StopIteration") (b := true) ⟨o, ho, hcl⟩ isSubtype_stop ?_)
    exact wpAny_pure ⟨rfl, I.turned (t' := s.toks) (fun b o hb q => hs b o hb q) f0 f1 f3 f4 f5⟩
  self := fun A i s Q E st h => let ⟨⟨_, he⟩, _⟩ := st; wpAny_pyIter_enum he h
def iEnumA (K : PySem.W.Frag) (ta : TA) : TI := fun σ H R => ta σ H fun vs H1 => ∃ a xs, vs = [.ref a] ∧ ((SqL K H1 a xs ∧ R (Ite K a) H1) ∨ (SqT K H1 a xs ∧ R (IteT K a) H1))
theorem pi_enumA {X : Cx} {e : Expr} {ta : TA} {p pos tpos : Pos} {elts : List Expr} {kk : Nat} (hg : Gl X "enumerate") (hm : X.mg "enumerate" = none) (ha : PA X [e] ta) (hs : starEach [e] X.env = [(false, eval e X.env)] := by rfl) :
    PI X (.Tuple elts kk tpos) (.Call (.Name "enumerate" p) [e] [] pos) (iEnumA X.K ta) := by
  refine ⟨fun pins s σ H R I h => ?_⟩
  refine Call_ (ld_blt I hg hm boot_enumerate (PyProof.Rows.callWith_type1 (thn (ha.run pos pins s σ H _ I h) fun us s1 ⟨vs, H1, I1, r1, q1⟩ => ?_) hs rfl))
  obtain ⟨a, xs, ex, q1⟩ := q1
  subst ex
  cases r1 with
  | cons r rr =>
    cases rr
    cases r
    have fp : ∀ b ∈ [s1.heap.objs.size + 1, s1.heap.objs.size], FpOk X pins H1 b := fun b hb => by
      have hle : s1.heap.objs.size ≤ b := by
        rcases List.mem_cons.mp hb with z | hb
        · rw [z]; exact Nat.le_add_right _ _
        · rw [List.mem_singleton.mp hb]; exact Nat.le_refl _
      exact I1.fpOk hle (I1.hok.fresh hle)
    rcases q1 with ⟨hq, q⟩ | ⟨hq, q⟩
    · obtain ⟨its, rv, p', hz⟩ := I1.list hq
      refine call_enumerate_list p'.isList fun h' he hit hsz hk => wpAny_pyIter_enum he ?_
      have I2 : Inv X pins σ H1 { s1 with heap := h' } := I1.kept (t' := s1.toks) hk
      exact ⟨s1.heap.objs.size + 1, [s1.heap.objs.size + 1, s1.heap.objs.size], _, _, H1, rfl, I2, turn_enum a (s1.heap.objs.size + 1) s1.heap.objs.size, ⟨⟨.none, he⟩, hit, Nat.succ_ne_self _⟩, fp, q⟩
    · obtain ⟨its, rv, p', hz⟩ := I1.tuple hq
      obtain ⟨o, ho, _⟩ := id p'
      have hal : a < s1.heap.objs.size := Heap.lt_size ho
      refine call_enumT (show s1.heap.IsTuple a its.toArray from p') fun h' he hit hsz hk => wpAny_pyIter_enum he ?_
      have I2 : Inv X pins σ H1 { s1 with heap := h' } := I1.kept (t' := s1.toks) hk
      exact ⟨s1.heap.objs.size + 1, [s1.heap.objs.size + 1, s1.heap.objs.size], _, _, H1, rfl, I2, turn_enumT a (s1.heap.objs.size + 1) s1.heap.objs.size, ⟨⟨.none, he⟩, hit, Nat.succ_ne_self _, Nat.ne_of_gt (Nat.lt_succ_of_lt hal), Nat.ne_of_lt hal⟩, fp, q⟩
end RZ
namespace DL
open L2 PySem PySem.Spec PyProof.Rows
open Evl (Ex ex_l ex_t sz_of)
section
variable {K : PySem.W.Frag} {T : Tb} {S : SA} {E : XK} {Hb H Hb1 H1 : Hp} {n n1 : Nat} {te : TE} {FE : DT}
def enumD (k : Nat) : List D → List D
  | [] => []
  | x :: xs => .tup [.int (k : Nat), x] :: enumD (k + 1) xs
theorem enumD_len : ∀ {xs : List D} {k : Nat}, (enumD k xs).length = xs.length
  | [], _ => rfl
  | _ :: xs, k => by
    show (enumD (k + 1) xs).length + 1 = _
    rw [enumD_len] <;> rfl
theorem enumD_get : ∀ {xs : List D} {k i : Nat}, (enumD k xs)[i]? = (xs[i]?).map fun x => D.tup [.int ((k + i : Nat) : Int), x]
  | [], _, _ => by simp [enumD]
  | x :: xs, k, 0 => by simp [enumD]
  | x :: xs, k, i + 1 => by
    show (enumD (k + 1) xs)[i]? = _
    rw [enumD_get]
    have e : k + 1 + i = k + (i + 1) := by omega
    rw [e]
    rfl
theorem src_enumL {a : Addr} {xs : List V} {ds : List D} (h : SqL K Hb a xs) (hd : DnA K Hb xs ds) : SrcOk K (Ite K a) Hb (enumD 0 ds) := fun Hb1 H1 i e1 e2 => by
  have h1 := ex_l e2 (ex_l e1 h)
  refine ⟨fun hi => ⟨xs, h1, by rw [enumD_len] at hi; rw [hd.len]; exact hi⟩, fun d e => ?_⟩
  rw [enumD_get] at e
  obtain ⟨x, ex, rfl⟩ := Option.map_eq_some_iff.mp e
  obtain ⟨v, ev, hv⟩ := hd.get ex
  refine ⟨⟨xs, v, h1, ev⟩, fun z H' q => ?_⟩
  obtain ⟨p, x', rfl, hp, rfl, f1⟩ := q
  have z1 := f1 xs h1
  rw [ev] at z1
  cases z1
  have ex := Ex.new (o := .tup [.int (i : Nat), v]) (free_of e2 hp)
  refine .inr ⟨p, _, hp, rfl, (fun _ z => by cases z), .tup (SqT.of upd_same) (.cons ?_ (.cons ((hv.up e1).up ex) .nil))⟩
  rw [Nat.zero_add]
  exact .int _
theorem src_enumT {a : Addr} {xs : List V} {ds : List D} (h : SqT K Hb a xs) (hd : DnA K Hb xs ds) : SrcOk K (RZ.IteT K a) Hb (enumD 0 ds) := fun Hb1 H1 i e1 e2 => by
  have h1 := ex_t e2 (ex_t e1 h)
  refine ⟨fun hi => ⟨xs, h1, by rw [enumD_len] at hi; rw [hd.len]; exact hi⟩, fun d e => ?_⟩
  rw [enumD_get] at e
  obtain ⟨x, ex, rfl⟩ := Option.map_eq_some_iff.mp e
  obtain ⟨v, ev, hv⟩ := hd.get ex
  refine ⟨⟨xs, v, h1, ev⟩, fun z H' q => ?_⟩
  obtain ⟨p, x', rfl, hp, rfl, f1⟩ := q
  have z1 := f1 xs h1
  rw [ev] at z1
  cases z1
  have ex := Ex.new (o := .tup [.int (i : Nat), v]) (free_of e2 hp)
  refine .inr ⟨p, _, hp, rfl, (fun _ z => by cases z), .tup (SqT.of upd_same) (.cons ?_ (.cons ((hv.up e1).up ex) .nil))⟩
  rw [Nat.zero_add]
  exact .int _
def xiEnum (G : DTA) : DTI := fun ρ n P XP => G ρ n (fun ss n1 => match ss with
  | [.d (.lst xs)] => P (enumD 0 xs) n1
  | [.d (.tup xs)] => P (enumD 0 xs) n1
  | _ => False) XP
theorem rdi_enum {ta : TA} {GA : DTA} (h1 : RdA K T S E ta GA) : RdI K T S E (RZ.iEnumA K ta) (xiEnum GA) := fun σ ρ Hb H n P XP R w sl h q x =>
  h1 σ ρ Hb H n _ XP _ w sl h (fun ss vs n1 Hb1 H1 s ha p => by
    match ss, ha, p with
    | [.d (.lst xs)], ha, p =>
      obtain ⟨v, rfl, hv⟩ := Args.one (ss := []) ha
      cases hv with
      | @lst a as ds g1 g2 => exact ⟨a, as, rfl, .inl ⟨ex_l s.wd.ex g1, q _ n1 Hb1 H1 _ s (src_enumL g1 g2) p⟩⟩
    | [.d (.tup xs)], ha, p =>
      obtain ⟨v, rfl, hv⟩ := Args.one (ss := []) ha
      cases hv with
      | @tup a as ds g1 g2 => exact ⟨a, as, rfl, .inr ⟨ex_t s.wd.ex g1, q _ n1 Hb1 H1 _ s (src_enumT g1 g2) p⟩⟩) x

/-! ### three targets -/
end
end DL

/-! dicts of one's own -/
namespace DL
open L2 PySem PySem.Spec PyProof.Rows
open Evl (Ex ex_l ex_t sz_of)
def isOd : SV → Bool
  | .od _ _ => true
  | .ot _ _ => true
  | _ => false
def noOd : List SV → Bool
  | [] => true
  | s :: ss => !isOd s && noOd ss
theorem noOd_get : ∀ {ρ : List SV} {i : Nat} {s : SV}, noOd ρ = true → ρ[i]? = some s → isOd s = false
  | [], i, s, _, e => by simp at e
  | t :: ss, 0, s, h, e => by
    simp at e
    subst e
    have z : (!isOd t && noOd ss) = true := h
    cases h1 : isOd t with
    | false => rfl
    | true => rw [h1] at z; cases z
  | t :: ss, i + 1, s, h, e => by
    have z : (!isOd t && noOd ss) = true := h
    exact noOd_get (ρ := ss) (i := i) (Bool.and_eq_true_iff.mp z).2 (by simpa using e)
section
variable {K : PySem.W.Frag} {T : Tb} {S : SA} {E : XK} {Hb H Hb1 H1 : Hp} {n n1 : Nat} {te : TE} {FE : DT}
/-- what is one's own is rewritten -/
theorem Stp.put {p : Addr} {o u : HO} (s : Stp K T S Hb H n Hb1 H1 n1) (hp : Fresh H p) (h2 : Hb1 p = none) (h1 : H1 p = some o) (nt : ∀ ps, o ≠ .tbl ps) (nx : ∀ φ, o ≠ .ext φ) (nu : ∀ ps, u ≠ .tbl ps) (na : p ≠ S.a) (nl : p ≠ S.l) : Stp K T S Hb H n Hb1 (upd H1 p u) n1 := by
  refine ⟨s.ex, s.wd.put h1 h2 nt nx nu, fun h0 => ?_, fun b v e1 e2 e3 e4 e5 => ?_, fun b e => s.dm b (dm_upd nu b e)⟩
  · obtain ⟨g1, g2, ls, cs, m, t, g3, g4, g5, g6, g7, g8, rest⟩ := s.st h0
    exact ⟨g1, g2, ls, cs, m, t, g3, g4, g5, by rw [upd_ne na.symm]; exact g6, by rw [upd_ne nl.symm]; exact g7, g8, rest⟩
  · rw [upd_ne (hp.ne e1 e5)]
    exact s.own b v e1 e2 e3 e4 e5
def slotE (ρ : List SV) (i : Nat) (k : List Key → List D → Prop) : Prop := match ρ[i]? with
  | some (.od ks ds) => k ks ds
  | _ => False
theorem slotE_zero {ks : List Key} {ds : List D} {ρ : List SV} {k : List Key → List D → Prop} : slotE (.od ks ds :: ρ) 0 k = k ks ds := rfl
theorem slotE_succ {s : SV} {ρ : List SV} {i : Nat} {k : List Key → List D → Prop} : slotE (s :: ρ) (i + 1) k = slotE ρ i k := rfl
theorem Slots.ownE {ρ : List SV} {σ : L2.St} {i : Nat} {k : List Key → List D → Prop} (sl : Slots K S Hb H n ρ σ) (h : slotE ρ i k) : ∃ ks ds p kvs, ρ[i]? = some (.od ks ds) ∧ σ[i]? = some (some (.ref p)) ∧ H p = some (.dK kvs) ∧ Hb p = none ∧ p ≠ S.a ∧ p ≠ S.l ∧ p ≠ S.c ∧ kvs.map (·.1) = ks ∧ DnA K Hb (kvs.map (·.2)) ds ∧ k ks ds := by
  unfold slotE at h
  cases e : ρ[i]? with
  | none => rw [e] at h; exact h.elim
  | some s =>
    rw [e] at h
    cases s with
    | od ks ds =>
      obtain ⟨o, e1, p, kvs, e2, e3, e4, e5, e6, e8, e7, e9⟩ := sl.ok i _ e
      exact ⟨ks, ds, p, kvs, rfl, by rw [e1, e2], e3, e4, e5, e6, e8, e7, e9, h⟩
    | ot _ _ => exact h.elim
    | _ => exact h.elim
/-- a slot that holds no list gets what holds -/
theorem Slots.setX {ρ : List SV} {σ : L2.St} {i : Nat} {s : SV} {o : Option V} (sl : Slots K S Hb H n ρ σ) (h : SlotOk K S Hb H n s o) (hs : ∀ xs, s ≠ .ol xs) : Slots K S Hb H n (ρ.set i s) (σ.set i o) where
  len := by rw [List.length_set, List.length_set]; exact sl.len
  ok := fun j t e => by
    by_cases hj : i = j
    · subst hj
      have hl : i < ρ.length := by
        have := (List.getElem?_eq_some_iff.mp e).1
        rwa [List.length_set] at this
      rw [List.getElem?_set_self hl] at e
      cases e
      exact ⟨o, List.getElem?_set_self (by rw [← sl.len]; exact hl), h⟩
    · rw [List.getElem?_set_ne hj] at e
      obtain ⟨o, e1, e2⟩ := sl.ok j t e
      exact ⟨o, by rw [List.getElem?_set_ne hj]; exact e1, e2⟩
  ap := fun j k p xs ys hjk ej ek sj sk => by
    by_cases h1 : i = j
    · subst h1
      have hl : i < ρ.length := by
        have := (List.getElem?_eq_some_iff.mp ej).1
        rwa [List.length_set] at this
      rw [List.getElem?_set_self hl] at ej
      exact hs _ (Option.some.inj ej)
    · by_cases h2 : i = k
      · subst h2
        have hl : i < ρ.length := by
          have := (List.getElem?_eq_some_iff.mp ek).1
          rwa [List.length_set] at this
        rw [List.getElem?_set_self hl] at ek
        exact hs _ (Option.some.inj ek)
      · rw [List.getElem?_set_ne h1] at ej sj
        rw [List.getElem?_set_ne h2] at ek sk
        exact sl.ap j k p xs ys hjk ej ek sj sk
/-- the rest of the frame where the dict at p is rewritten -/
theorem Slots.putE {ρ : List SV} {σ : L2.St} {p : Addr} {kvs us : List (Key × V)} (sl : Slots K S Hb H n ρ σ) (h1 : H p = some (.dK kvs)) (h3 : p ≠ S.a) (h4 : p ≠ S.l) (no : noOd ρ = true) : Slots K S Hb (upd H p (.dK us)) n ρ σ := by
  have keep : ∀ {b : Addr} {o : HO}, H b = some o → b ≠ p → upd H p (.dK us) b = some o := fun e hb => by rw [upd_ne hb]; exact e
  refine ⟨sl.len, fun j s e => ?_, sl.ap⟩
  obtain ⟨o, e1, e2⟩ := sl.ok j s e
  refine ⟨o, e1, ?_⟩
  cases s with
  | no => trivial
  | d x => exact e2
  | st =>
    obtain ⟨e3, st⟩ := e2
    obtain ⟨g1, g2, ls, cs, m, t, g3, g4, g5, g6, g7, g8, rest⟩ := st
    exact ⟨e3, g1, g2, ls, cs, m, t, g3, g4, g5, keep g6 h3.symm, keep g7 h4.symm, g8, rest⟩
  | ol zs =>
    obtain ⟨q, ws, e3, e4, rest⟩ := e2
    exact ⟨q, ws, e3, keep e4 (fun z => by rw [z, h1] at e4; cases e4), rest⟩
  | me y C ms es2 =>
    obtain ⟨e3, dx, fs, e4, rest⟩ := e2
    exact ⟨e3, dx, fs, keep e4 (fun z => by rw [z, h1] at e4; cases e4), rest⟩
  | od ks es2 =>
    have z := noOd_get no e
    cases z
  | ot ks es2 =>
    have z := noOd_get no e
    cases z
  | fv F =>
    obtain ⟨f, c, e3, e4, e5, rest⟩ := e2
    exact ⟨f, c, e3, e4, keep e5 (fun z => by rw [z, h1] at e5; exact codeO_no (o := .dK kvs) (fun _ z => by cases z) (Option.some.inj e5)), rest⟩
theorem set_set {α : Type} {ρ : List α} {i : Nat} {a b : α} : (ρ.set i a).set i b = ρ.set i b := List.set_set ..
theorem set_get {α : Type} : ∀ {ρ : List α} {i : Nat} {a : α}, ρ[i]? = some a → ρ.set i a = ρ
  | [], _, _, _ => rfl
  | x :: ρ, 0, a, h => by
    simp at h
    rw [h]
    rfl
  | x :: ρ, i + 1, a, h => by
    show x :: ρ.set i a = _
    rw [set_get (by simpa using h)]
theorem OwF.setF {H0 : Hp} {ρ : List SV} {σ : L2.St} {i : Nat} {s : SV} {p : Addr} (f : OwF H0 ρ σ) (h : Fresh H0 p) (hl : ρ.length = σ.length) : OwF H0 (ρ.set i s) (σ.set i (some (.ref p))) := fun j xs r ej eo sj => by
  by_cases hj : i = j
  · subst hj
    have hl2 : i < ρ.length := by
      have := (List.getElem?_eq_some_iff.mp ej).1
      rwa [List.length_set] at this
    rw [List.getElem?_set_self (by rw [← hl]; exact hl2)] at sj
    have er : p = r := V.ref.inj (Option.some.inj (Option.some.inj sj))
    rw [← er]
    exact h
  · rw [List.getElem?_set_ne hj] at ej sj
    exact f j xs r ej eo sj
/-- x = {..}, a dict of one's own -/
def xsSetD (i : Nat) (prs : List (DT × DT)) : DTS := fun DD ρ n XP => noOd (ρ.set i .no) = true ∧ xPairs prs ρ n (fun ks ds n1 => ks.Nodup ∧ ks.length ≤ 15 ∧ DD.nx (ρ.set i (.od ks ds)) n1) XP
theorem rds_setD {i : Nat} {trs : List (TE × TE)} {prs : List (DT × DT)} (h : RdP K T S E trs prs) : RdS K T S E (tAsg (tDisp trs) (gName i)) (xsSetD i prs) := fun σ ρ Hb0 H0 n0 Hb H n DD XP D a sl hp q x p hn => by
  obtain ⟨no, hp⟩ := hp
  have w := a.wd
  have s0 : Stp K T S Hb H n Hb (upd H p (.dK [])) n := .newO w hn
  obtain ⟨n1, n2, n3⟩ := w.nS (fresh_none hn)
  refine rd_pairs h s0.wd ((sl.sl).step s0) hp (fun kvs ks ds n' Hb' H' s ek hd p1 => ?_) ((x.step a).step s0)
  obtain ⟨hnd, hl, p1⟩ := p1
  obtain ⟨g1, g2⟩ := s.own p _ upd_same (free_of w.ex hn) n1 n2 (fun ps z => by cases z)
  have el : kvs.length = ks.length := by rw [← ek, List.length_map]
  refine ⟨g1, kvs, rfl, by omega, ?_⟩
  have em : mergeK [] kvs = kvs := by
    rw [merge_nodup (by rw [List.nil_append, ek]; exact hnd)]
    rfl
  rw [em]
  have s2 := s0.trans s
  have s3 := s2.put (u := .dK kvs) (fresh_none hn) g2 g1 (fun _ z => by cases z) (fun _ z => by cases z) (fun _ z => by cases z) n1 n2
  have sl2 := sl.step s2
  have f0 : Fresh H0 p := a.dm p (fresh_none hn)
  have b1 : Slots K S Hb' H' n' (ρ.set i .no) (σ.set i (some (.ref p))) := sl2.sl.forget
  have b2 := b1.putE (us := kvs) g1 n1 n2 no
  have b3 := b2.setX (i := i) (s := .od ks ds) (o := some (.ref p)) ⟨p, kvs, rfl, upd_same, g2, n1, n2, n3, ek, hd⟩ (fun _ z => by cases z)
  rw [set_set, set_set] at b3
  exact q.nx _ _ n' Hb' _ s3.ex (a.trans s3) ⟨b3, sl2.fr.setF f0 sl.sl.len⟩ p1
/-- return x, x a dict of one's own -/
def xsRetE (i : Nat) : DTS := fun DD ρ n _ => slotE ρ i fun ks ds => DD.rt (.dic ks ds) n
theorem rds_retE {i : Nat} : RdS K T S E (tRet (tVar i)) (xsRetE i) := fun σ ρ Hb0 H0 n0 Hb H n DD XP D a sl h q x => by
  obtain ⟨ks, ds, p, kvs, e, es, e3, e4, e5, e6, e8, e7, e9, h⟩ := sl.sl.ownE h
  have f0 : Fresh H0 p := sl.fr i _ p e rfl es
  have a' := a.freeze (o := .dK kvs) f0 e4 (by rw [e3]; exact fun z => by cases z) (fun ps z => by rw [e3] at z; cases z) (fun c u z => by rw [e3] at z; exact codeO_no (o := .dK kvs) (fun _ z => by cases z) (Option.some.inj z)) e5 e6 e8
  rw [upd_id e3] at a'
  exact ⟨.ref p, es, q.rt _ _ n _ H a' (.dic upd_same e7 (e9.up (Ex.new e4))) h⟩
end
end DL

/-! exceptions with one attribute: raised, asked -/
namespace DL
open L2 PySem PySem.Spec PyProof.Rows
open Evl (Ex ex_l ex_t sz_of)
section
variable {P : Program} {w : PySem.World} {K : PySem.W.Frag} {T : Tb} {mg : Str → Option Value} {base : Heap}
end
section
variable {K : PySem.W.Frag} {T : Tb} {S : SA} {E : XK} {Hb H Hb1 H1 : Hp} {n n1 : Nat} {te : TE} {FE : DT}
end
end DL

/-! lambdas of one value that are handed on and called; functions as data -/
namespace DL
open L2 PySem PySem.Spec PyProof.Rows
open Evl (Ex ex_l ex_t sz_of)
/-! ### the call of such a lambda -/
section
variable {P : Program} {w : PySem.World} {K : PySem.W.Frag} {T : Tb} {mg : Str → Option Value} {base : Heap} {k : Nat} {F : FV} {sp : Sp}
end
section
variable {X : Cx} {k i : Nat} {x : Str} {p pos : Pos} {e : Expr} {ta : TA} {E : XK}
/-! ### its making -/
end
end DL

/-! function values on data; keywords -/
namespace DL
open L2 PySem PySem.Spec PyProof.Rows
open Evl (Ex ex_l ex_t sz_of)
section
variable {P : Program} {w : PySem.World} {mg : Str → Option Value} {base : Heap} {K : PySem.W.Frag} {T : Tb} {S : SA} {E : XK} {Hb H Hb1 H1 : Hp} {n n1 k : Nat} {te : TE} {FE : DT} {ta : TA} {GA : DTA}
/-! ### functions as data -/
/-! ### keywords -/
def gpI {α : Type} : List Nat → List α → List α
  | [], _ => []
  | i :: is, ws => match ws[i]? with
    | some w => w :: gpI is ws
    | none => gpI is ws
theorem Args.getI {ss : List SV} {vs : List V} (h : Args K S Hb H n ss vs) : ∀ i : Nat, (∃ s v, ss[i]? = some s ∧ vs[i]? = some v ∧ SlotOk K S Hb H n s (some v)) ∨ (ss[i]? = none ∧ vs[i]? = none) := by
  induction h with
  | nil => intro i; right; simp
  | @cons s v ss vs r _ ih =>
    intro i
    cases i with
    | zero => exact .inl ⟨s, v, rfl, rfl, r⟩
    | succ i => simpa using ih i
theorem Args.gpI {ss : List SV} {vs : List V} (h : Args K S Hb H n ss vs) : ∀ ix : List Nat, Args K S Hb H n (DL.gpI ix ss) (DL.gpI ix vs)
  | [] => .nil
  | i :: ix => by
    unfold DL.gpI
    rcases h.getI i with ⟨z, w, e1, e2, r⟩ | ⟨e1, e2⟩
    · rw [e1, e2]
      exact .cons r (Args.gpI h ix)
    · rw [e1, e2]
      exact Args.gpI h ix
theorem Args.append {ss ts : List SV} {vs us : List V} (h : Args K S Hb H n ss vs) (g : Args K S Hb H n ts us) : Args K S Hb H n (ss ++ ts) (vs ++ us) := by
  induction h with
  | nil => exact g
  | cons r _ ih => exact .cons r ih
def ds0 (DS : DSp0) : DSp := fun ss n P _ => noOl ss = true ∧ DS ss n P
end
section
variable {X : Cx} {CX : CXT} {k : Nat} {f : Addr} {fd : FuncData} {ps ks : List Str} {sp : Sp} {E : XK} {x : Str} {p pos : Pos} {kws : List Keyword} {tk : TA} {g : List Value → List Value → List Value} {gV : List V → List V → List V}
end
section
variable {K : PySem.W.Frag} {x qual : Str} {st : Stmt} {f : Addr} {fd : FuncData} {ps ks : List Str} {n : Nat} {ix : List Nat}
/-- a def as it stands, for calls by keywords too -/
def HasF (P : Program) (w : PySem.World) (K : PySem.W.Frag) (mg : Str → Option Value) (base : Heap) (CX : CXT) (k : Nat) (name : Str) (st : Stmt) (ps : List Str) (sp : Sp) : Prop :=
  ∃ f fd, FnOk P w K mg base CX k f fd ps sp ∧ mg name = some (.ref f) ∧ PySem.W.keepIn K (.ref f) = true ∧ Binds K fd ps [] ∧ L2.Fun K name name st f fd
theorem HasF.has {P : Program} {w : PySem.World} {mg : Str → Option Value} {base : Heap} {CX : CXT} {k : Nat} {name : Str} {sp : Sp} (h : HasF P w K mg base CX k name st ps sp) : Has P w K mg base CX k name ps sp := by
  obtain ⟨f, fd, a, b, c, d, _⟩ := h
  exact ⟨f, fd, a, b, c, d⟩
end
end DL

/-! t[::-1] of a tuple; xs != [] whatever the items; sorted of ints -/
namespace HT
open PySem PySem.Spec PyProof.Rows
section
variable {prog : Program} {w : World} {A : Around} {E : Value → Shared → Prop} {s : Shared}
theorem places_rev (n : Nat) : Builtin.Slice.slicePlaces ((n : Int) - 1) (-1) (-1) = n := by
  unfold Builtin.Slice.slicePlaces
  rw [if_neg (by decide)]
  by_cases h : ((n : Int) - 1 > -1)
  · rw [if_pos h]
    have e : ((n : Int) - 1 - -1 - 1) / (-(-1)) + 1 = n := by
      rw [show (-(-1) : Int) = 1 by decide, Int.ediv_one]
      omega
    rw [e]
    simp
  · rw [if_neg h]
    have : n = 0 := by omega
    subst this
    rfl
theorem sliceApplied_rev {sl : Addr} {vl vu vs : Value} {n : Nat} {Q : Int × Int × Nat → Shared → Prop} (hs : s.heap.IsSliceOf sl vl vu vs) (pl : IsPart vl none) (pu : IsPart vu none) (ps : IsPart vs (some (-1)))
    (h : Q ((n : Int) - 1, -1, n) s) : wpAny (model prog w) A (Builtin.Slice.sliceApplied (.ref sl) (pure (n : Int))) Q E s := by
  obtain ⟨os, hos, hcs, hds⟩ := id hs
  unfold Builtin.Slice.sliceApplied Builtin.Slice.sliceFields
  refine wpAny_bind (wpAny_bind (wpAny_field hos hds (x := vl) rfl (wpAny_bind (wpAny_field hos hds (x := vu) rfl (wpAny_bind (wpAny_field hos hds (x := vs) rfl (wpAny_pure ?_)))))))
  refine wpAny_bind (slicePart_ ps ?_)
  show wpAny _ _ (if ((-1 : Int) == 0) = true then _ else _) _ _ s
  rw [if_neg (by decide)]
  refine wpAny_bind (slicePart_ pl (wpAny_bind (slicePart_ pu (wpAny_bind (wpAny_pure ?_)))))
  show wpAny _ _ (pure ((n : Int) - 1, (-1 : Int), Builtin.Slice.slicePlaces ((n : Int) - 1) (-1) (-1))) _ _ s
  rw [places_rev]
  exact wpAny_pure h
theorem fm_eq {α β : Type} {f g : α → Option β} : ∀ (l : List α), (∀ k ∈ l, f k = g k) → l.filterMap f = l.filterMap g
  | [], _ => rfl
  | x :: l, h => by
    rw [List.filterMap_cons, List.filterMap_cons, h x (.head _), fm_eq l fun k q => h k (.tail _ q)]
theorem fm_some {α β : Type} (g : α → β) : ∀ l : List α, l.filterMap (fun k => some (g k)) = l.map g
  | [] => rfl
  | x :: l => by
    rw [List.filterMap_cons, List.map_cons, fm_some g l]
theorem pick_rev (xs : Array Value) : ((List.range xs.size).filterMap fun (k : Nat) => xs[((xs.size : Int) - 1 + (k : Int) * -1).toNat]?).toArray = xs.toList.reverse.toArray := by
  congr 1
  have e : ((List.range xs.size).filterMap fun (k : Nat) => xs[((xs.size : Int) - 1 + (k : Int) * -1).toNat]?) = (List.range xs.size).filterMap fun k => some (xs.toList.reverse.getD k .none) := by
    refine fm_eq _ fun k hk => ?_
    have hk' := List.mem_range.mp hk
    have e1 : ((xs.size : Int) - 1 + (k : Int) * -1).toNat = xs.size - 1 - k := by omega
    rw [e1]
    rw [Array.getElem?_eq_getElem (by omega)]
    rw [List.getD_eq_getElem?_getD, List.getElem?_reverse (by simpa using hk')]
    simp only [Array.length_toList]
    rw [List.getElem?_eq_getElem (by simp; omega)]
    simp
  rw [e, fm_some]
  apply List.ext_getElem?
  intro i
  by_cases hi : i < xs.size
  · rw [List.getElem?_map, List.getElem?_range hi]
    simp only [Option.map_some]
    rw [List.getD_eq_getElem?_getD, List.getElem?_eq_getElem (by simpa using hi)]
    rfl
  · rw [List.getElem?_eq_none (by simp; omega), List.getElem?_eq_none (by simp; omega)]
theorem getItem_tuple_rev {t sl : Addr} {items : Array Value} {vl vu vs : Value} {Q : Value → Shared → Prop} (ht : IsTup s.heap t items) (hs : s.heap.IsSliceOf sl vl vu vs) (pl : IsPart vl none) (pu : IsPart vu none) (ps : IsPart vs (some (-1)))
    (h : Q (.ref s.heap.objs.size) { s with heap := s.heap.push { cls := .type "tuple", data := .seq items.toList.reverse.toArray } }) (hsz : items.size ≤ sizeLine) : wpAny (model prog w) A (getItem (.ref t) (.ref sl)) Q E s := by
  have htake : sizeOk (.seq items.toList.reverse.toArray) := by
    show items.toList.reverse.toArray.size ≤ sizeLine
    rw [List.size_toArray, List.length_reverse, Array.length_toList]
    exact hsz
  obtain ⟨os, hos, hcs, hds⟩ := id hs
  have hTs : s.TypeIs (.ref sl) "slice" := ⟨os, hos, hcs⟩
  unfold getItem
  try with_reducible refine wpAny_holding ?_
  first | refine wpAny_bind (wpAny_pure ?_) | skip
  refine wpAny_bind (wpAny_sequenceKey ht.typeIs (by decide) ?_)
  refine wpAny_bind (wpAny_callSpecial?_slot (name := Str.ofString "__getitem__") ht.typeIs PyProof.Rows.slot_tuple_getitem
    (wpAny_call_entry PyProof.Rows.slot_tuple_getitem ht.typeIs entry_tuple_getitem ?_ (args_tuple_getitem _ _)))
  show wpAny _ _ (Builtin.Tuple.tupleItemsOf (.ref t) >>= _) _ _ s
  refine wpAny_bind (tupleItemsOf_ ht ?_)
  refine wpAny_bind (wpAny_typeOf hTs ?_)
  rw [if_pos (by decide)]
  refine wpAny_bind (sliceApplied_rev hs pl pu ps ?_)
  have hno : ¬ ((((items.size : Int) - 1) == 0 && (-1 : Int) == 1 && items.size == items.size) = true) := by
    intro q
    rw [Bool.and_eq_true, Bool.and_eq_true] at q
    exact absurd q.1.2 (by decide)
  show wpAny _ _ (if (((items.size : Int) - 1) == 0 && (-1 : Int) == 1 && items.size == items.size) = true then _ else _) _ _ s
  rw [if_neg hno, pick_rev]
  first
    | exact wpAny_bind (m := Builtin.Tuple.tupleExact _) (wpAny_newObj_type (wpAny_pure ⟨_, rfl, wpAny_pure h⟩) htake)
    | exact wpAny_bind (m := Builtin.Tuple.tupleExact _) (wpAny_newObj_type (wpAny_bind (wpAny_pure (wpAny_pure ⟨_, rfl, wpAny_pure h⟩))) htake)
    | exact wpAny_bind (wpAny_bind (m := Builtin.Tuple.tupleExact _) (wpAny_newObj_type (wpAny_pure (wpAny_pure ⟨_, rfl, wpAny_pure h⟩)) htake))
    | exact wpAny_bind (wpAny_bind (m := Builtin.Tuple.tupleExact _) (wpAny_newObj_type (wpAny_pure ⟨_, rfl, wpAny_pure h⟩) htake))
end
end HT
namespace DL
open L2 PySem PySem.Spec PyProof.Rows
open Evl (Ex ex_l ex_t sz_of)
/-! ### t[::-1] -/
def tRevT (K : PySem.W.Frag) (te : TE) : TE := fun σ H Q => te σ H fun x H1 => ∃ a xs, x = .ref a ∧ SqT K H1 a xs ∧ ∀ p, H1 p = none → Q (.ref p) (upd H1 p (.tup xs.reverse))
theorem pe_revT {X : Cx} {e : Expr} {te : TE} {k : Nat} {p1 p2 p3 pos : Pos} (he : PE X e te) : PE X (.Subscript e (.Slice none none (some (.UnaryOp .USub (.Constant (.int 1) k p1) p2)) p3) pos) (tRevT X.K te) := by
  refine ⟨fun pins s σ H Q I h => ?_⟩
  refine Subscript_ (thn (he.run pins s σ H _ I h) fun v s1 ⟨x, H1, I1, r1, q1⟩ => ?_)
  obtain ⟨a, xs, ex, hx, q⟩ := q1
  subst ex
  cases r1
  have hst : PO X (some (.UnaryOp .USub (.Constant (.int 1) k p1) p2)) (tPart (tUn (rU fun i => .int (-i)) (tC (.int 1)))) := po_some (pe_un un_neg pe_int)
  refine wpAny_Slice (thn (po_none.run pins s1 σ H1 (fun o H2 => o = none ∧ H2 = H1) I1 ⟨rfl, rfl⟩) fun vl s2 ⟨l, H2, I2, pl, el, e2⟩ => ?_)
  subst el e2
  refine thn (po_none.run pins s2 σ H2 (fun o H3 => o = none ∧ H3 = H2) I2 ⟨rfl, rfl⟩) fun vu s3 ⟨u, H3, I3, pu, eu, e3⟩ => ?_
  subst eu e3
  refine thn (hst.run pins s3 σ H3 (fun o H4 => o = some (-1) ∧ H4 = H3) I3 ⟨1, rfl, -1, rfl, rfl, rfl⟩) fun vs s4 ⟨o, H4, I4, ps, eo, e4⟩ => ?_
  subst eo e4
  have I5 : Inv X pins σ H4 { s4 with heap := s4.heap.push { cls := .type "slice", data := .fields #[vl, vu, vs] } } := I4.kept (t' := s4.toks) fun b ob q => Heap.get?_push_of_some _ q
  obtain ⟨its, r, ht, hz⟩ := I5.tuple hx
  have hlen := r.length
  show wpAny (model X.prog X.w) X.A (subscriptTail e (.Slice none none (some (.UnaryOp .USub (.Constant (.int 1) k p1) p2)) p3) (.ref a) (.ref s4.heap.objs.size)) (EP X pins σ Q) X.xe { s4 with heap := s4.heap.push { cls := .type "slice", data := .fields #[vl, vu, vs] } }
  refine tail_any (ops := [.ref a, .ref s4.heap.objs.size]) ht.typeIs (PyProof.Rows.slot_tuple_getitem.lookup) ?_ (by with_unfolding_all rfl)
  refine HT.getItem_tuple_rev ht (Heap.IsSliceOf.new _ vl vu vs) pl pu ps ?_ (by rw [List.size_toArray]; omega)
  refine ⟨.ref _, _, I5.laid (t' := s4.toks) (o := .tup xs.reverse) (fun b ob q => Heap.get?_push_of_some _ q) (Nat.le_refl _) ?_, rfl, q _ (I5.hok.fresh (Nat.le_refl _))⟩
  exact ⟨by rw [List.length_reverse]; exact hz, _, by simpa using r.reverse, IsTup.new _ _⟩
section
variable {K : PySem.W.Frag} {T : Tb} {S : SA} {E : XK} {Hb H Hb1 H1 : Hp} {n n1 : Nat} {te : TE} {FE : DT}
theorem DnA.rev {vs : List V} {ds : List D} (h : DnA K H vs ds) : DnA K H vs.reverse ds.reverse := by
  induction vs generalizing ds with
  | nil => cases h; exact .nil
  | cons v vs ih =>
    cases h with
    | cons h1 h2 =>
      rw [List.reverse_cons, List.reverse_cons]
      exact (ih h2).app (.one h1)
def xRevT (F : DT) : DT := fun ρ n P XP => F ρ n (fun d n1 => match d with | .tup xs => P (.tup xs.reverse) n1 | _ => False) XP
theorem rd_revT (h1 : DL.Rd K T S E te FE) : DL.Rd K T S E (tRevT K te) (xRevT FE) := fun σ ρ Hb H n P XP Q w sl h q x =>
  h1 σ ρ Hb H n _ XP _ w sl h (fun d v n1 Hb1 H1 s hd p => by
    cases hd with
    | @tup a vs ds g1 g2 => exact ⟨a, vs, rfl, ex_t s.wd.ex g1, fun l hl => (q.step s).new s.wd hl (.tup (SqT.of upd_same) (g2.rev.up (Ex.new (free_of s.wd.ex hl)))) p⟩
    | _ => exact p.elim) x
/-! ### xs != [] -/
def rNeNil (K : PySem.W.Frag) : R2 := fun x y H Q => ∃ a b xs, x = .ref a ∧ y = .ref b ∧ SqL K H a xs ∧ SqL K H b [] ∧ Q (.bl (!xs.isEmpty)) H
theorem op_neNil {X : Cx} (hu : X.A.units + 64 < cLine) : OpR X (compareOp .NotEq) (rNeNil X.K) := by
  intro pins s σ H x y v u Q I rx ry h
  obtain ⟨a, b, xs, rfl, rfl, ha, hb, q⟩ := h
  cases rx
  cases ry
  obtain ⟨its, r1, p1, _⟩ := I.list ha
  obtain ⟨its2, r2, p2, _⟩ := I.list hb
  have hu0 : X.A.units < cLine := Nat.lt_of_le_of_lt (Nat.le_add_right _ _) hu
  have e2 : its2 = [] := by
    cases r2
    rfl
  subst e2
  cases xs with
  | nil =>
    have e1 : its = [] := by
      cases r1
      rfl
    subst e1
    exact SeqAt.RcNeAt.lists (e := fun _ => true) p1.isList p2.isList rfl hu0 (fun j h1 h2 => by simp at h1) X.prog X.w _ _ ⟨.bl _, H, I, rfl, q⟩
  | cons x xs =>
    have hl := r1.length
    exact SeqAt.RcNeAt.lists_lengths p1.isList p2.isList (by simp; intro z; rw [z] at hl; simp at hl) hu0 X.prog X.w _ _ ⟨.bl _, H, I, rfl, q⟩
def neNilD : D → D → (D → Prop) → Prop := fun a b k => match a, b with
  | .lst xs, .lst [] => k (.bl (!xs.isEmpty))
  | _, _ => False
theorem o2_neNil : Op2 K (rNeNil K) neNilD := by
  intro T S x y a b Hb H n P Q w hx hy h q
  unfold neNilD at h
  split at h
  · cases hx with
    | @lst p vs ds g1 g2 =>
      cases hy with
      | @lst p2 vs2 ds2 g3 g4 =>
        cases g4
        refine ⟨p, p2, vs, rfl, rfl, ex_l w.ex g1, ex_l w.ex g3, q.now w (.bl _) ?_⟩
        cases g2 with
        | nil => exact h
        | cons _ _ => exact h
  · exact h.elim
/-! ### sorted of ints -/
theorem ints_of : ∀ {ns : List Int} {vs : List V}, DnA K H vs (ns.map D.int) → vs = ns.map V.int
  | [], _, h => by cases h; rfl
  | n :: ns, _, h => by
    cases h with
    | cons h1 h2 =>
      cases h1
      rw [ints_of h2]
      rfl
end
end DL

/-! list(range(n)); len(set(t)) of a tuple of ints; t == () of a tuple -/
namespace RZ
open L2 PySem PySem.Spec PyProof.Rows PySem.W Pv
def intsV (m : Nat) : List V := (List.range m).map fun (j : Nat) => V.int (j : Int)
def tListRng (ta : TA) : TE := fun σ H Q => ta σ H fun vs H1 => ∃ i : Int, vs = [.int i] ∧ 0 ≤ i ∧ i ≤ 100000 ∧ ∀ p, H1 p = none → Q (.ref p) (upd H1 p (.lst (intsV i.toNat)))
theorem vals_at : ∀ {vs : List V} {us : List Value}, vs.length = us.length → (∀ (j : Nat) (v : V) (u : Value), vs[j]? = some v → us[j]? = some u → L2.RelV v u) → Vals vs us
  | [], [], _, _ => .nil
  | v :: vs, u :: us, hl, h => .cons (h 0 v u rfl rfl) (vals_at (by simpa using hl) fun j v u a b => h (j + 1) v u a b)
theorem rel_ints {acc : Array Value} {m : Nat} (h : ItemsOf (fun i v => ∃ t, v = Value.int ((0 : Int) + (i : Int) * 1) t) acc m) : Vals (intsV m) acc.toList := by
  refine vals_at (by simp [intsV, h.1]) fun j v u a b => ?_
  obtain ⟨t, rfl⟩ := h.2 j u (by simpa using b)
  unfold intsV at a
  rw [List.getElem?_map] at a
  have hj : j < m := by
    apply Decidable.byContradiction
    intro z
    rw [List.getElem?_eq_none (by simp; omega)] at a
    cases a
  rw [List.getElem?_range hj] at a
  simp only [Option.map_some, Option.some.injEq] at a
  subst a
  exact ⟨t, by simp⟩
theorem pe_listRng {X : Cx} {e : Expr} {ta : TA} {p p2 pos pos2 : Pos} (hgl : Gl X "list") (hml : X.mg "list" = none) (hg : Gl X "range") (hm : X.mg "range" = none) (ha : PA X [e] ta)
    (hc : X.calm = true := by rfl)
    (na : starEach [.Call (.Name "range" p2) [e] [] pos2] X.env = (false, eval (.Call (.Name "range" p2) [e] [] pos2) X.env) :: starEach [] X.env := by rfl)
    (hs : starEach [e] X.env = (false, eval e X.env) :: starEach [] X.env := by rfl) (hpl : (backTo pos2 (starEach [] X.env)).any (·.1) = false := by rfl) :
    PE X (.Call (.Name "list" p) [.Call (.Name "range" p2) [e] [] pos2] [] pos) (tListRng ta) := by
  refine ⟨fun pins s σ H Q I h => ?_⟩
  refine Call_ (ld_blt I hgl hml PyProof.Rows.boot_list ?_)
  refine PyProof.Rows.callWith_type1 (PyProof.Rows.args_cons ?_ na) na rfl
  refine Call_ (ld_blt I hg hm PyProof.Rows.boot_range (PyProof.Rows.callWith_type1 (thn (ha.run pos2 pins s σ H _ I h) fun us s1 ⟨vs, H1, I1, r1, q1⟩ => ?_) hs hpl))
  obtain ⟨i, ex, h0, hi, q⟩ := q1
  subst ex
  cases r1 with
  | cons r rr =>
    cases rr
    obtain ⟨t, r⟩ := r
    subst r
    refine call_range_1 ?_
    refine PyProof.Rows.args_nil ?_
    have hsz : Builtin.Range.rangeSize 0 i 1 = (i.toNat : Int) := by rw [rangeSize_nat]; simp
    have hR : IsRange (s1.heap.push { cls := .type "range", data := .fields #[.int 0 s1.toks, .int i t, .int 1 (s1.toks + 1)] }) s1.heap.objs.size 0 i 1 s1.toks t (s1.toks + 1) := Heap.get?_push_size _ rfl
    have hsm : Builtin.Range.small 0 i 1 = true := by
      unfold Builtin.Range.small
      rw [hsz]
      unfold Builtin.Range.rangeFitsLong
      have a1 : (-2 ^ 63 : Int) ≤ i := by omega
      have a2 : i < (2 ^ 63 : Int) := by omega
      have a3 : (-2 ^ 63 : Int) ≤ ((i.toNat : Nat) : Int) := by omega
      have a4 : ((i.toNat : Nat) : Int) < (2 ^ 63 : Int) := by omega
      have a5 : (-2 ^ 63 : Int) ≤ i + (1 - 1) := by omega
      have a6 : i + (1 - 1) < (2 ^ 63 : Int) := by omega
      simp only [a1, a2, a3, a4, a5, a6, decide_true, Bool.and_self, Bool.and_true, Bool.true_and]
      simp
    refine call_list_range (I1.ok.hd hc) hR hsm hsz (by omega) fun h' tk acc c' hk hl hi => ?_
    have hkk : ∀ b o, s1.heap.get? b = some o → h'.get? b = some o := fun b o e => hk b o (Heap.get?_push_of_some _ e)
    have hle : s1.heap.objs.size ≤ s1.heap.objs.size + 1 := Nat.le_succ _
    have hps : (s1.heap.push { cls := .type "range", data := .fields #[.int 0 s1.toks, .int i t, .int 1 (s1.toks + 1)] }).objs.size = s1.heap.objs.size + 1 := by simp [Heap.push]
    rw [hps] at hl ⊢
    have hSH : H1 (s1.heap.objs.size + 1) = none := I1.hok.fresh hle
    have okF : HOk X.prog X.w (upd H1 (s1.heap.objs.size + 1) (.lst (intsV i.toNat))) h' := (I1.hok.kept hkk).laidN (fun _ _ q => q) hSH ⟨by simp only [intsV, List.length_map, List.length_range]; exact Nat.le_trans (m := 100000) (by omega) (by decide), acc.toList, c', rel_ints hi, by rw [hl]⟩
    exact ⟨.ref _, _, I1.un (t' := tk) (Un.more (Un.kept hkk) hle hSH) okF, rfl, q _ hSH⟩
theorem vals_ints : ∀ {ns : List Int} {us : List Value}, Vals (ns.map V.int) us → IntsAre us ns
  | [], _, h => by cases h; exact .nil
  | n :: ns, _, h => by
    cases h with
    | cons r rr =>
      obtain ⟨t, r⟩ := r
      subst r
      exact .cons n t (vals_ints rr)
/-! ### t == () -/
end RZ
namespace DL
open L2 PySem PySem.Spec PyProof.Rows
open Evl (Ex ex_l ex_t sz_of)
section
variable {K : PySem.W.Frag} {T : Tb} {S : SA} {E : XK} {te : TE} {FE : DT}
def natsI (m : Nat) : List Int := (List.range m).map fun (j : Nat) => (j : Int)
def natsD (m : Nat) : List D := (natsI m).map D.int
theorem intsV_eq {m : Nat} : RZ.intsV m = (natsI m).map V.int := by unfold RZ.intsV natsI; rw [List.map_map]; rfl
def xListRng (G : DTA) : DT := fun ρ n P XP => G ρ n (fun ss n1 => ∃ i : Int, ss = [.d (.int i)] ∧ 0 ≤ i ∧ i ≤ 100000 ∧ P (.lst (natsD i.toNat)) n1) XP
theorem rd_listRng {ta : TA} {GA : DTA} (h1 : RdA K T S E ta GA) : DL.Rd K T S E (RZ.tListRng ta) (xListRng GA) := fun σ ρ Hb H n P XP Q w sl h q x =>
  h1 σ ρ Hb H n _ XP _ w sl h (fun ss vs n1 Hb1 H1 s ha p => by
    obtain ⟨i, rfl, h0, hi, p⟩ := p
    obtain ⟨v, rfl, hv⟩ := Args.one (ss := []) ha
    cases hv
    exact ⟨i, rfl, h0, hi, fun l hl => (q.step s).new s.wd hl (.lst (SqL.of upd_same) (by rw [intsV_eq]; exact DnA.ints _)) p⟩) x
end
end DL

/-! exceptions with one attribute as a class of the program; lambdas without free names -/
namespace DL
open L2 PySem PySem.Spec PyProof.Rows
end DL
namespace DL
open L2 PySem PySem.Spec PyProof.Rows
end DL

/-! a, b, c = e1, e2, e3 -/
namespace DL
open L2 PySem PySem.Spec PyProof.Rows
open Evl (Ex ex_l ex_t sz_of)
section
variable {K : PySem.W.Frag} {T : Tb} {S : SA} {E : XK} {Hb H : Hp} {n : Nat}
theorem Args.three {ss : List SV} {vs : List V} {d e f : D} (h : Args K S Hb H n [.d d, .d e, .d f] vs) : ∃ v u t, vs = [v, u, t] ∧ Dn K Hb v d ∧ Dn K Hb u e ∧ Dn K Hb t f := by
  cases h with
  | cons h1 h2 =>
    obtain ⟨u, t, rfl, hu, ht⟩ := Args.two (ss := []) h2
    obtain ⟨_, e, hv⟩ := h1
    cases e
    exact ⟨_, _, _, rfl, hv, hu, ht⟩
end
end DL

/-! set comprehensions over any kind of things, told by what is new and what is added -/
namespace SCo
open L2 PySem PySem.Spec PyProof.Rows PpSet
/-- what stands where a set was just made -/
abbrev newO (w : World) : Obj := { cls := .type "set", dict := none, data := .set #[] 0 (.fresh 0 0 (!w.params.followText "set-order")) }
variable {X : Cx}
/-! ### ints -/
end SCo

/-! set(xs) of a list of ints -/
namespace SCo
open L2 PySem PySem.Spec PyProof.Rows
section
variable {P : Program} {w : World} {A : Around} {E : Value → Shared → Prop} {s : Shared}
end
variable {X : Cx}
theorem vals_ints' : ∀ {ns : List Int} {us : List Value}, Vals (ns.map V.int) us → IntsAre us ns
  | [], _, h => by cases h; exact .nil
  | n :: ns, _, h => by
    cases h with
    | cons r rr =>
      obtain ⟨t, r⟩ := r
      subst r
      exact .cons n t (vals_ints' rr)
end SCo

/-! sorted(xs), xs a list or tuple of ints or of tuples of ints; <, >= of tuples of ints -/
namespace SCo
open L2 PySem PySem.Spec PyProof.Rows PySem.W
section
variable {prog : Program} {w : PySem.World} {A : Around} {E : Value → Shared → Prop} {s : Shared} {β : Type} {bs : List β} {enc : β → PyData} {R : Value → β → Prop}
/-- the first items of tuples, some of which may have none -/
theorem firsts_any : ∀ (vs : List Value) (ds : List PyData) {Q : List (Option Value) → Shared → Prop}, EachIs (fun v d => (∃ as, Reads s.heap v d as) ∧ ∃ l, d = .tuple l) vs ds →
    (∀ fs : List (Option Value), fs.length = ds.length → (∀ (i : Nat) (d : PyData), ds[i]? = some d → ∃ f, fs[i]? = some f ∧ (f.isSome = true ↔ ∃ x r, d = .tuple (x :: r))) → Q fs s) → wpAny (model prog w) A (vs.mapM firstOfTuple') Q E s
  | _, _, _, .nil, h => by rw [List.mapM_nil]; exact wpAny_pure (h [] rfl fun i d e => by simp at e)
  | _, _, Q, .cons (as := vs) (bs := ds) h1 h2, h => by
    obtain ⟨⟨as, r⟩, l, e⟩ := h1
    subst e
    cases r with
    | @tuple a o xs n _ _ ho hc hd hr =>
      rw [List.mapM_cons]
      refine wpAny_bind ?_
      rw [kas_first_eq]
      refine wpAny_bind (Looks.here (show Looks (model prog w) s.heap (typeOf (.ref a)) o.cls from (Looks.ld ho).andThen .now) ?_)
      rw [hc, if_neg (by first | decide | simp)]
      refine wpAny_bind (listItems_at ho hd (wpAny_pure ?_))
      refine wpAny_bind (firsts_any vs ds (Q := fun bs s' => wpAny (model prog w) A (pure (xs[0]? :: bs)) Q E s') h2 fun fs hl hf => wpAny_pure (h _ (by simp [hl]) fun i d ed => ?_))
      cases i with
      | succ i => exact hf i d (by simpa using ed)
      | zero =>
        simp at ed
        subst ed
        have hn : xs.size = l.length := by simpa using SeqAt.ReadsAll.length _ _ _ hr
        refine ⟨_, rfl, ?_⟩
        cases l with
        | nil =>
          have z : xs = #[] := by simpa using hn
          subst z
          simp
        | cons x r =>
          have z : 0 < xs.size := by rw [hn]; simp
          simp [z]
theorem sorts_head {vs : List Value} {ds : List PyData} (e : EachIs (fun v d => ∃ as, Reads s.heap v d as) vs ds) (hal : AllAlike ds) (hT : ∀ d ∈ ds, ∃ l, d = .tuple l) (hd : ds.length < 2 ∨ ∃ x r rest, ds = .tuple (x :: r) :: rest) (hu : ∀ d, d ∈ ds → A.units + d.depth < cLine) :
    SortsAt prog w A s (dataKind s.heap ds) vs := by
  by_cases hne : ∀ d ∈ ds, ∃ x r, d = .tuple (x :: r)
  · exact SortsAt.data e hal (.inl hne) hu
  have e2 : EachIs (fun v d => (∃ as, Reads s.heap v d as) ∧ ∃ l, d = .tuple l) vs ds := EachIs.of_zip e.length fun p hp => ⟨e.zip p hp, hT p.2 (List.of_mem_zip (a := p.1) (b := p.2) hp).2⟩
  refine ⟨fun v hv => ?_, general', fun E' x y a b Q ha hb hq => ?_, fun h2 E' Q hq => ?_⟩
  · obtain ⟨d, hm, as, r⟩ := e.left v hv
    exact ⟨_, dataKind_some hal hm r⟩
  · obtain ⟨d1, as, h1, ra, rfl⟩ := dataKind_inv ha
    obtain ⟨d2, bs, h3, rb, rfl⟩ := dataKind_inv hb
    obtain ⟨l, rfl⟩ := hT d1 h1
    exact oneLt_alike (f := false) (fun z => nomatch z) ra rb (hal _ h1 _ h3) (fun z => nomatch z) (Nat.lt_of_le_of_lt (Nat.add_le_add_left (Nat.min_le_left _ _) _) (hu _ h1)) hq
  · have hl := e.length
    rcases hd with hd | ⟨x, r, rest, rfl⟩
    · omega
    rw [kat_kind_eq, List.mapM_toArray, map_eq_pure_bind]
    refine wpAny_bind (wpAny_bind (firsts_any vs _ e2 fun fs hfl hf => wpAny_pure ?_))
    have h1 : ((fs.toArray).all fun x => x.isSome) = false := by
      rw [Bool.eq_false_iff]
      intro z
      refine hne fun d hm => ?_
      obtain ⟨i, hi, rfl⟩ := List.mem_iff_getElem.mp hm
      obtain ⟨f, g1, g2⟩ := hf i _ (List.getElem?_eq_getElem hi)
      refine g2.mp ?_
      rw [List.all_toArray, List.all_eq_true] at z
      exact z f (List.mem_of_getElem? g1)
    rw [h1]
    obtain ⟨f, g1, g2⟩ := hf 0 _ rfl
    have g3 := g2.mpr ⟨x, r, rfl⟩
    have h2 : ((fs.toArray)[0]?.bind id).isSome = true := by
      rw [List.getElem?_toArray, g1]
      exact g3
    rw [if_neg (by simp), if_pos h2]
    exact wpAny_pure hq
/-- the items of a list or tuple, gathered anew; the heap only grows -/
theorem gathered {Q : List Value → Shared → Prop} (l : Addr) {T : String} {o : Obj} {its : Array Value} {n : Nat} (hT : T = "list" ∨ T = "tuple") (ho : s.heap.get? l = some o) (hc : o.cls = .type T) (hd : o.data = .seq its n) (hz : its.size ≤ sizeLine)
    (fin : ∀ h1 : Heap, (∀ b u, s.heap.get? b = some u → h1.get? b = some u) → s.heap.objs.size ≤ h1.objs.size → Q its.toList { s with heap := h1 }) : wpAny (model prog w) A (collect (.ref l)) Q E s := by
  have at1 : (s.heap.push { cls := .type "list", data := .seq ([] : List Value).toArray }).get? s.heap.objs.size = some { cls := .type "list", data := .seq #[] 0 } := Heap.get?_push_size _ rfl
  have at2 := Heap.get?_update_self (Obj.mapSeq (· ++ its)) at1 rfl
  unfold collect
  refine wpAny_bind (wpAny_runValue (codeAny_builtin F.entry_proto_collect ?_))
  rw [Around.under_plainId F.plain_proto_collect _]
  refine wpAny_bind (m := newList []) (wpAny_newObj_type (wpAny_pure ⟨plainId_quiet F.plain_list_iadd _, codeAny_builtin F.entry_list_iadd ?_⟩))
  rw [Around.under_plainId F.plain_list_iadd _]
  have out : wpAny (model prog w) A (match Value.ref s.heap.objs.size with
      | Value.ref a => do
        match (← load a).data with
          | Data.seq xs _ => pure xs.toList
          | _ => unsupported "internal:collect"
      | _ => unsupported "internal:collect") Q E { s with heap := (s.heap.push { cls := .type "list", data := .seq ([] : List Value).toArray }).update s.heap.objs.size (Obj.mapSeq (· ++ its)) } := by
    show wpAny _ A (load s.heap.objs.size >>= _) _ _ _
    refine wpAny_bind (wpAny_load at2 (wpAny_pure ?_))
    have e : ((#[] : Array Value) ++ its).toList = its.toList := by simp
    show Q ((#[] : Array Value) ++ its).toList _
    rw [e]
    exact fin _ (fun b u q => (Heap.get?_update_other _ _ (Nat.ne_of_gt (Heap.lt_size q))).trans (Heap.get?_push_of_some _ q)) (by rw [Heap.size_update, size_push']; exact Nat.le_succ _)
  refine wpAny_mono (wpAny_extend_seq (hsz := hz) (A := A) (R := fun r s1 => r = .ok (.ret (.ref s.heap.objs.size)) ∧ s1 = { s with heap := (s.heap.push { cls := .type "list", data := .seq ([] : List Value).toArray }).update s.heap.objs.size (Obj.mapSeq (· ++ its)) })
    (s := { s with heap := s.heap.push { cls := .type "list", data := .seq ([] : List Value).toArray } }) _ l _ 0 hT at1 (Heap.get?_push_of_some _ ho) hc hd ⟨rfl, rfl⟩) (fun f s1 h => ?_) (fun e s1 h => absurd h.1 (by simp))
  cases f with
  | done f =>
    obtain ⟨e, rfl⟩ := h
    cases e
    exact out
  | again c => exact ⟨h.1, codeAny_mono h.2 fun r s2 hr => by obtain ⟨rfl, rfl⟩ := hr; exact out⟩
theorem sorted_seqd {l : Addr} {T : String} {o : Obj} {its : Array Value} {n : Nat} {Q : Value → Shared → Prop} (hT : T = "list" ∨ T = "tuple") (ho : s.heap.get? l = some o) (hc : o.cls = .type T) (hd : o.data = .seq its n)
    (e : EachIs R its.toList bs) (er : EachIs (fun v b => Reads s.heap v (enc b) []) its.toList bs) (hal : AllAlike (bs.map enc)) (hk : Sortable (bs.map enc) ∨ (∀ d ∈ bs.map enc, ∃ l, d = .tuple l) ∧ ((bs.map enc).length < 2 ∨ ∃ x r rest, bs.map enc = .tuple (x :: r) :: rest)) (hL : bs.length ≤ sizeLine) (hu : ∀ b, b ∈ bs → A.units + 5 + (enc b).depth < cLine)
    (fin : ∀ (h' : Heap) (p : Addr) (out : List Value) (c : Nat), (∀ b o, s.heap.get? b = some o → h'.get? b = some o) → s.heap.objs.size ≤ p → h'.get? p = some (seqObj "list" out.toArray c) → EachIs R out (bs.mergeSort (dataLe false enc)) → Q (.ref p) { s with heap := h' }) :
    wpAny (model prog w) A (call (.builtin "sorted") [.ref l]) Q E s := by
  have hz : its.size ≤ sizeLine := by have := e.length; rw [Array.length_toList] at this; omega
  refine Calls.call_function_entry kind_sorted plain_sorted entry_sorted (args_sorted1 _) ?_
  unfold Builtin.«sorted»
  refine wpAny_bind (m := checkCount "sorted" 1 1 _) (wpAny_pure ?_)
  refine wpAny_bind (gathered (A := A.in1) l hT ho hc hd hz fun h1 k1 z1 => ?_)
  refine wpAny_bind (wpAny_newList ?_ (by rw [Array.length_toList]; exact hz))
  have at1 : (h1.push (seqObj "list" its.toList.toArray 0)).get? h1.objs.size = some (seqObj "list" its.toList.toArray 0) := Heap.get?_push_size _ rfl
  have er2 : EachIs (fun v b => ∃ as, Reads (sortingHeap (h1.push (seqObj "list" its.toList.toArray 0)) h1.objs.size its.toList) v (enc b) as) its.toList bs := er.mono fun v b r => ⟨[], PyProof.Rows.Reads.keeps (fun b o q => sortingHeap_old (Nat.ne_of_lt (Heap.lt_size (k1 b o q))) (Heap.get?_push_of_some _ (k1 b o q))) r⟩
  have hu2 : ∀ d, d ∈ bs.map enc → A.in1.in1.units + d.depth < cLine := fun d hd => by
    obtain ⟨b, hb, rfl⟩ := List.mem_map.mp hd
    have := hu b hb
    simp only [Around.in1] at this ⊢
    omega
  have S : SortsAt prog w A.in1.in1 { s with heap := sortingHeap (h1.push (seqObj "list" its.toList.toArray 0)) h1.objs.size its.toList } (dataKind (sortingHeap (h1.push (seqObj "list" its.toList.toArray 0)) h1.objs.size its.toList) (bs.map enc)) its.toList := by
    rcases hk with hk | ⟨hk1, hk2⟩
    · exact SortsAt.data (s := { s with heap := sortingHeap (h1.push (seqObj "list" its.toList.toArray 0)) h1.objs.size its.toList }) (each_map (R := fun v d => ∃ as, Reads (sortingHeap (h1.push (seqObj "list" its.toList.toArray 0)) h1.objs.size its.toList) v d as) enc er2) hal hk hu2
    · exact sorts_head (s := { s with heap := sortingHeap (h1.push (seqObj "list" its.toList.toArray 0)) h1.objs.size its.toList }) (each_map (R := fun v d => ∃ as, Reads (sortingHeap (h1.push (seqObj "list" its.toList.toArray 0)) h1.objs.size its.toList) v d as) enc er2) hal hk1 hk2 hu2
  refine wpAny_bind (wpAny_holding (wpAny_call_entry slot_list_sort ⟨_, at1, rfl⟩ entry_list_sort (list_sort_vals (s := { s with heap := h1.push (seqObj "list" its.toList.toArray 0) }) at1 S (by rw [Array.length_toList]; exact hz) ⟨.none, rfl, ?_⟩) (args_list_sort _)))
  have h3 := sortVals_data false e er2 hal
  obtain ⟨c, hc2⟩ := sortedHeap_at (vs := its.toList) (out := (sortVals (dataKind (sortingHeap (h1.push (seqObj "list" its.toList.toArray 0)) h1.objs.size its.toList) (bs.map enc)) false its.toList its.toList).toArray) at1
  refine wpAny_pure ⟨_, rfl, fin _ h1.objs.size _ c (fun b u q => ?_) z1 hc2 h3⟩
  · have q1 := k1 b u q
    have lt := Heap.lt_size q1
    rw [sortedHeap_old (Nat.ne_of_lt lt) (by rw [size_push']; exact Nat.lt_succ_of_lt lt)]
    exact Heap.get?_push_of_some _ q1
end
end SCo

/-! as data: sorted of tuples of ints, < and >= of these -/
namespace SCo
open L2 PySem PySem.Spec PyProof.Rows PySem.W
def ltI (a b : List Int) : Bool := decide (a < b)
theorem lexLt_eq : ∀ {a b : List Int}, HT.lexLt a b = ltI a b
  | [], [] => by simp [HT.lexLt, ltI]
  | [], _ :: _ => by simp [HT.lexLt, ltI]
  | _ :: _, [] => by simp [HT.lexLt, ltI]
  | x :: a, y :: b => by
    have ih := lexLt_eq (a := a) (b := b)
    unfold ltI at ih ⊢
    rw [HT.lexLt, ih]
    by_cases h : x = y
    · subst h
      rw [if_pos rfl, decide_eq_decide, List.cons_lt_cons_iff]
      constructor
      · exact fun z => .inr ⟨rfl, z⟩
      · rintro (z | z)
        · exact absurd z (by omega)
        · exact z.2
    · rw [if_neg h, decide_eq_decide, List.cons_lt_cons_iff]
      constructor
      · exact fun z => .inl z
      · rintro (z | z)
        · exact z
        · exact absurd z.1 h
def encT (b : V × List Int) : PyData := .tuple (b.2.map .int)
def encI (b : V × Int) : PyData := .int b.2
theorem dataLt_tup {a b : List Int} : dataLt (.tuple (a.map .int)) (.tuple (b.map .int)) = ltI a b := dataLt_ints a b
def leT (b c : V × List Int) : Bool := !ltI c.2 b.2
def leI (b c : V × Int) : Bool := decide (b.2 ≤ c.2)
theorem le_encT : dataLe false encT = leT := by
  funext b c
  rw [dataLe_eq]
  show (!dataLt (encT c) (encT b)) = _
  unfold encT leT
  rw [dataLt_tup]
theorem le_encI : dataLe false encI = leI := dataLe_int fun b : V × Int => b.2
section
variable {X : Cx}
/-- the first of two and more has an item -/
def HdOk (nss : List (List Int)) : Prop := nss.length < 2 ∨ ∃ ns rest, nss = ns :: rest ∧ ns ≠ []
/-- xs beside what its items are -/
def rSortT (K : PySem.W.Frag) : List V → Hp → VK → Prop := fun vs H Q => ∃ (a : Addr) (bs : List (V × List Int)), vs = [.ref a] ∧ (SqL K H a (bs.map (·.1)) ∨ SqT K H a (bs.map (·.1))) ∧ (∀ b ∈ bs, TupI K H b.1 b.2) ∧ HdOk (bs.map (·.2)) ∧
  ∀ p, H p = none → Q (.ref p) (upd H p (.lst ((bs.mergeSort leT).map (·.1))))
def rSortTI (K : PySem.W.Frag) : List V → Hp → VK → Prop := fun vs H Q => ∃ (a : Addr) (ns : List Int), vs = [.ref a] ∧ SqT K H a (ns.map V.int) ∧
  ∀ (ns' : List Int) (p : Addr), ns'.Perm ns → ns'.Pairwise (· ≤ ·) → H p = none → Q (.ref p) (upd H p (.lst (ns'.map V.int)))
theorem vals_each : ∀ {α : Type} {bs : List (V × α)} {its : List Value}, Vals (bs.map (·.1)) its → EachIs (fun v b => RelV b.1 v ∧ b ∈ bs) its bs
  | _, [], _, h => by cases h; exact .nil
  | _, b :: bs, _, h => by
    cases h with
    | cons r rr => exact .cons ⟨r, .head _⟩ ((vals_each rr).mono fun v c q => ⟨q.1, .tail _ q.2⟩)
theorem each_vals : ∀ {α : Type} {bs cs : List (V × α)} {its : List Value}, EachIs (fun v b => RelV b.1 v ∧ b ∈ cs) its bs → Vals (bs.map (·.1)) its
  | _, [], _, _, h => by cases h; exact .nil
  | _, b :: bs, _, _, h => by
    cases h with
    | cons r rr => exact .cons r.1 (each_vals rr)
theorem reads_ints {h : Heap} : ∀ {its : List Value} {ns : List Int}, IntsAre its ns → ReadsAll h its (ns.map .int) []
  | _, _, .nil => .nil
  | _, _, .cons n t r => .cons (as := []) (bs := []) (.int n t) (reads_ints r)
theorem alikeT {bs : List (V × List Int)} : AllAlike (bs.map encT) := fun d hd e he => by
  obtain ⟨b, _, rfl⟩ := List.mem_map.mp hd
  obtain ⟨c, _, rfl⟩ := List.mem_map.mp he
  exact alike_ints b.2 c.2
theorem cr_sortT {k0 : Nat} (hr : Room k0 X.A) : CallR X (.builtin "sorted") (rSortT X.K) := by
  intro pins s σ H vs us Q I r h
  obtain ⟨a, bs, rfl, hs, hb, hh, q⟩ := h
  rw [Vals.ref1 r]
  have hk : (∀ d ∈ bs.map encT, ∃ l, d = .tuple l) ∧ ((bs.map encT).length < 2 ∨ ∃ x r rest, bs.map encT = .tuple (x :: r) :: rest) := by
    refine ⟨fun d hd => ?_, ?_⟩
    · obtain ⟨b, _, rfl⟩ := List.mem_map.mp hd
      exact ⟨_, rfl⟩
    · rcases hh with hh | ⟨ns, rest, e, hne⟩
      · exact .inl (by simpa using hh)
      · cases bs with
        | nil => cases e
        | cons b bs =>
          have e1 : b.2 = ns := (List.cons.inj e).1
          cases h : b.2 with
          | nil => exact absurd (e1.symm.trans h) hne
          | cons m ms =>
            refine .inr ⟨.int m, ms.map .int, bs.map encT, ?_⟩
            show encT b :: bs.map encT = _
            unfold encT
            rw [h]
            rfl
  have hu : ∀ b, b ∈ bs → X.A.units + 5 + (encT b).depth < cLine := fun b _ => by
    have e : (encT b).depth ≤ 1 := by
      unfold encT
      rw [PyData.depth, depth_ints]
      exact Nat.le_refl 1
    have := hr.un
    omega
  have go : ∀ {T : String} {o : Obj} {its : List Value} {n : Nat}, (T = "list" ∨ T = "tuple") → Vals (bs.map (·.1)) its → (bs.map (·.1)).length ≤ sizeLine → s.heap.get? a = some o → o.cls = .type T → o.data = .seq its.toArray n → wpAny (model X.prog X.w) X.A (call (.builtin "sorted") [.ref a]) (EP X pins σ Q) X.xe s := by
    intro T o its n hT rv hz ho hc hd
    refine sorted_seqd (bs := bs) (enc := encT) (R := fun v b => RelV b.1 v ∧ b ∈ bs) (its := its.toArray) hT ho hc hd (vals_each rv) ((vals_each rv).mono fun v b hm => ?_) alikeT (.inr hk) (by simpa using hz) hu fun h' p out c kp hp hg he => ?_
    · obtain ⟨t, e, ht⟩ := hb b hm.2
      have rv2 := hm.1
      rw [e] at rv2
      cases rv2
      obtain ⟨its2, r2, ⟨o2, g1, g2, n2, g3⟩, _⟩ := I.tuple ht
      exact .tuple g1 g2 g3 (reads_ints (vals_ints' r2))
    · rw [le_encT] at he
      have hl : ((bs.mergeSort leT).map (·.1)).length ≤ sizeLine := by rw [List.length_map, List.length_mergeSort]; simpa using hz
      exact ⟨.ref p, _, I.laid (t' := s.toks) (o := .lst ((bs.mergeSort leT).map (·.1))) kp hp ⟨hl, out, c, each_vals he, hg⟩, rfl, q p (I.hok.fresh hp)⟩
  rcases hs with hs | hs
  · obtain ⟨its, rv, hl, hz⟩ := I.list hs
    obtain ⟨o, ho, hc, n, hd⟩ := hl.isList
    exact go (.inl rfl) rv hz ho hc hd
  · obtain ⟨its, rv, ⟨o, ho, hc, n, hd⟩, hz⟩ := I.tuple hs
    exact go (.inr rfl) rv hz ho hc hd
theorem cr_sortTI {k0 : Nat} (hr : Room k0 X.A) : CallR X (.builtin "sorted") (rSortTI X.K) := by
  intro pins s σ H vs us Q I r h
  obtain ⟨a, ns, rfl, hs, q⟩ := h
  rw [Vals.ref1 r]
  obtain ⟨its, rv, ⟨o, ho, hc, n, hd⟩, hz⟩ := I.tuple hs
  have eb : (ns.map fun i => (V.int i, i)).map (·.1) = ns.map V.int := by rw [List.map_map]; rfl
  have eb2 : (ns.map fun i => (V.int i, i)).map (·.2) = ns := by rw [List.map_map]; simp [Function.comp_def]
  rw [← eb] at rv
  refine sorted_seqd (bs := ns.map fun i => (V.int i, i)) (enc := encI) (R := fun v b => RelV b.1 v ∧ b ∈ ns.map fun i => (V.int i, i)) (its := its.toArray) (.inr rfl) ho hc hd (vals_each rv) ((vals_each rv).mono fun v b hm => ?_)
    (fun d hd e he => ?_) (.inl (.inr fun d hd => ?_)) (by simpa using hz) (fun b _ => ?_) fun h' p out c kp hp hg he => ?_
  · obtain ⟨h1, h2⟩ := hm
    obtain ⟨i, _, rfl⟩ := List.mem_map.mp h2
    have h1 : RelV (V.int i) v := h1
    obtain ⟨t, e⟩ := h1
    subst e
    exact .int i t
  · obtain ⟨b, _, rfl⟩ := List.mem_map.mp hd
    obtain ⟨c, _, rfl⟩ := List.mem_map.mp he
    rfl
  · obtain ⟨b, _, rfl⟩ := List.mem_map.mp hd
    exact ⟨(fun z => nomatch z), (fun xs z => nomatch z)⟩
  · have := hr.un
    show X.A.units + 5 + 0 < cLine
    omega
  · rw [le_encI] at he
    have tot : TotalLe leI := { total := fun a b => by unfold leI; rcases Int.le_total a.2 b.2 with z | z <;> simp [z], trans := fun a b c h1 h2 => by unfold leI at *; simp only [decide_eq_true_eq] at *; omega }
    have pm := List.mergeSort_perm (ns.map fun i => (V.int i, i)) leI
    have ev : ((ns.map fun i => (V.int i, i)).mergeSort leI).map (·.1) = (((ns.map fun i => (V.int i, i)).mergeSort leI).map (·.2)).map V.int := by
      rw [List.map_map]
      refine List.map_congr_left fun b hb => ?_
      obtain ⟨i, _, rfl⟩ := List.mem_map.mp (pm.mem_iff.mp hb)
      rfl
    have hl : ((((ns.map fun i => (V.int i, i)).mergeSort leI).map (·.2)).map V.int).length ≤ sizeLine := by rw [List.length_map, List.length_map, List.length_mergeSort, List.length_map]; simpa using hz
    refine ⟨.ref p, _, I.laid (t' := s.toks) (o := .lst ((((ns.map fun i => (V.int i, i)).mergeSort leI).map (·.2)).map V.int)) kp hp ⟨hl, out, c, by rw [← ev]; exact each_vals he, hg⟩, rfl, q _ p ?_ ?_ (I.hok.fresh hp)⟩
    · have z := pm.map (·.2)
      rw [eb2] at z
      exact z
    · have z := sort_pairwise tot (ns.map fun i => (V.int i, i))
      refine List.pairwise_map.mpr (z.imp fun h => ?_)
      simpa [leI] using h
/-! ### < and >= -/
def rLtU (K : PySem.W.Frag) : R2 := fun x y H Q => (rI0 fun i j => .bl (decide (i < j))) x y H Q ∨ rLtT K x y H Q
theorem op_ltU (hu : X.A.units < cLine) : OpR X (compareOp .Lt) (rLtU X.K) := fun pins s σ H x y u v Q I rx ry h => h.elim (op_lt pins s σ H x y u v Q I rx ry) (op_ltT hu pins s σ H x y u v Q I rx ry)
def rGeT (K : PySem.W.Frag) : R2 := fun x y H Q => ∃ a b ns ms, x = .ref a ∧ y = .ref b ∧ SqT K H a (ns.map V.int) ∧ SqT K H b (ms.map V.int) ∧ Q (.bl (!ltI ns ms)) H
theorem lexAt_ge : ∀ (k i : Nat) {ns ms : List Int}, k = min ns.length ms.length - i → i ≤ min ns.length ms.length → Ob.lexAt (fun j => decide (ns.getD j 0 = ms.getD j 0)) (fun j => decide (ms.getD j 0 ≤ ns.getD j 0)) (decide (ms.length ≤ ns.length)) i k = !HT.lexLt (ns.drop i) (ms.drop i)
  | 0, i, ns, ms, hk, hi => by
    rw [Ob.lexAt_zero]
    by_cases h : ms.length ≤ ns.length
    · rw [decide_eq_true h]
      have e : ms.drop i = [] := List.drop_eq_nil_of_le (by omega)
      rw [e]
      cases ns.drop i <;> rfl
    · rw [decide_eq_false h]
      have e : ns.drop i = [] := List.drop_eq_nil_of_le (by omega)
      rw [e]
      have l : i < ms.length := by omega
      rw [List.drop_eq_getElem_cons l]
      rfl
  | k + 1, i, ns, ms, hk, hi => by
    have l1 : i < ns.length := by omega
    have l2 : i < ms.length := by omega
    rw [Ob.lexAt_succ, List.drop_eq_getElem_cons l1, List.drop_eq_getElem_cons l2, HT.lexLt]
    have g1 : ns.getD i 0 = ns[i] := by rw [List.getD_eq_getElem?_getD, List.getElem?_eq_getElem l1]; rfl
    have g2 : ms.getD i 0 = ms[i] := by rw [List.getD_eq_getElem?_getD, List.getElem?_eq_getElem l2]; rfl
    rw [g1, g2]
    by_cases h : ns[i] = ms[i]
    · rw [if_pos (decide_eq_true h), if_pos h]
      exact lexAt_ge k (i + 1) (by omega) (by omega)
    · rw [if_neg (by simpa using h), if_neg h, ← decide_not, decide_eq_decide]
      omega
theorem op_geT (hu : X.A.units < cLine) : OpR X (compareOp .GtE) (rGeT X.K) := by
  intro pins s σ H x y v u Q I rx ry h
  obtain ⟨a, b, ns, ms, rfl, rfl, ha, hb, q⟩ := h
  cases rx
  cases ry
  obtain ⟨its, r1, p1, _⟩ := I.tuple ha
  obtain ⟨its2, r2, p2, _⟩ := I.tuple hb
  have i1 : IntsAre its ns := vals_ints' r1
  have i2 : IntsAre its2 ms := vals_ints' r2
  have z1 : its.toArray.size = ns.length := by rw [List.size_toArray]; exact i1.length
  have z2 : its2.toArray.size = ms.length := by rw [List.size_toArray]; exact i2.length
  have g1 : ∀ j (hj : j < its.toArray.size), ∃ t, its.toArray[j] = .int (ns.getD j 0) t := fun j hj => PyProof.Rows.IntsAre.int_at i1 _ _ (by simp at hj; simp [hj])
  have g2 : ∀ j (hj : j < its2.toArray.size), ∃ t, its2.toArray[j] = .int (ms.getD j 0) t := fun j hj => PyProof.Rows.IntsAre.int_at i2 _ _ (by simp at hj; simp [hj])
  have R := Ob.RcOp.tuples_ge (A := X.A) (s := s) (e := fun j => decide (ns.getD j 0 = ms.getD j 0)) (r := fun j => decide (ms.getD j 0 ≤ ns.getD j 0)) p1 p2 hu (fun j h1 h2 => by
    obtain ⟨t, et⟩ := g1 j h1
    obtain ⟨t', et'⟩ := g2 j h2
    rw [et, et']
    have z : (ns.getD j 0 == ms.getD j 0) = decide (ns.getD j 0 = ms.getD j 0) := rfl
    rw [← z]
    exact SeqAt.EqAt.int_int _ _ _ _) (fun j h1 h2 _ => by
    obtain ⟨t, et⟩ := g1 j h1
    obtain ⟨t', et'⟩ := g2 j h2
    rw [et, et']
    exact Ob.RcOp.ge_int _ _ _ _)
  rw [z1, z2, lexAt_ge _ 0 (by omega) (by omega), List.drop_zero, List.drop_zero, lexLt_eq] at R
  exact R X.prog X.w X.xe (EP X pins σ Q) ⟨.bl _, H, I, rfl, q⟩
def rGeU (K : PySem.W.Frag) : R2 := fun x y H Q => (rI0 fun i j => .bl (decide (j ≤ i))) x y H Q ∨ rGeT K x y H Q
theorem op_geU (hu : X.A.units < cLine) : OpR X (compareOp .GtE) (rGeU X.K) := fun pins s σ H x y u v Q I rx ry h => h.elim (op_ge pins s σ H x y u v Q I rx ry) (op_geT hu pins s σ H x y u v Q I rx ry)
end
end SCo
namespace DL
open L2 PySem PySem.Spec PyProof.Rows SCo
open Evl (Ex ex_l ex_t sz_of)
section
variable {K : PySem.W.Frag}
def tupI (ns : List Int) : D := .tup (ns.map D.int)
def sortL (nss : List (List Int)) : List (List Int) := nss.mergeSort fun a b => !ltI b a
def ltUD : D → D → (D → Prop) → Prop
  | .int i, .int j, k => k (.bl (decide (i < j)))
  | .tup xs, .tup ys, k => ∃ ns ms : List Int, xs = ns.map D.int ∧ ys = ms.map D.int ∧ k (.bl (ltI ns ms))
  | _, _, _ => False
def geUD : D → D → (D → Prop) → Prop
  | .int i, .int j, k => k (.bl (decide (j ≤ i)))
  | .tup xs, .tup ys, k => ∃ ns ms : List Int, xs = ns.map D.int ∧ ys = ms.map D.int ∧ k (.bl (!ltI ns ms))
  | _, _, _ => False
theorem o2_ltU : Op2 K (rLtU K) ltUD := by
  intro T S x y a b Hb H n P Q w hx hy h q
  cases hx with
  | int i =>
    cases hy with
    | int j => exact .inl ⟨i, j, rfl, rfl, q.now w (.bl _) h⟩
    | _ => exact h.elim
  | tup g1 g2 =>
    cases hy with
    | tup g3 g4 =>
      obtain ⟨ns, ms, rfl, rfl, h⟩ := h
      have e1 := ints_of g2
      have e2 := ints_of g4
      subst e1 e2
      exact .inr ⟨_, _, ns, ms, rfl, rfl, ex_t w.ex g1, ex_t w.ex g3, q.now w (.bl _) (by rw [lexLt_eq]; exact h)⟩
    | _ => exact h.elim
  | _ => exact h.elim
theorem o2_geU : Op2 K (rGeU K) geUD := by
  intro T S x y a b Hb H n P Q w hx hy h q
  cases hx with
  | int i =>
    cases hy with
    | int j => exact .inl ⟨i, j, rfl, rfl, q.now w (.bl _) h⟩
    | _ => exact h.elim
  | tup g1 g2 =>
    cases hy with
    | tup g3 g4 =>
      obtain ⟨ns, ms, rfl, rfl, h⟩ := h
      have e1 := ints_of g2
      have e2 := ints_of g4
      subst e1 e2
      exact .inr ⟨_, _, ns, ms, rfl, rfl, ex_t w.ex g1, ex_t w.ex g3, q.now w (.bl _) h⟩
    | _ => exact h.elim
  | _ => exact h.elim
def sortTD : D → (D → Prop) → Prop := fun d k => match d with
  | .lst xs => ∃ nss : List (List Int), xs = nss.map tupI ∧ HdOk nss ∧ k (.lst ((sortL nss).map tupI))
  | .tup xs => ∃ nss : List (List Int), xs = nss.map tupI ∧ HdOk nss ∧ k (.lst ((sortL nss).map tupI))
  | _ => False
theorem tups_of {H : Hp} : ∀ {nss : List (List Int)} {vs : List V}, DnA K H vs (nss.map tupI) → ∃ bs : List (V × List Int), vs = bs.map (·.1) ∧ nss = bs.map (·.2) ∧ ∀ b ∈ bs, TupI K H b.1 b.2 ∧ Dn K H b.1 (tupI b.2)
  | [], _, h => by cases h; exact ⟨[], rfl, rfl, fun b hb => by cases hb⟩
  | ns :: nss, _, h => by
    cases h with
    | @cons v d vs ds h1 h2 =>
      obtain ⟨bs, rfl, rfl, hb⟩ := tups_of h2
      refine ⟨(v, ns) :: bs, rfl, rfl, fun b hm => ?_⟩
      rcases List.mem_cons.mp hm with rfl | hm
      · refine ⟨?_, h1⟩
        have h1' : Dn K H v (.tup (ns.map D.int)) := h1
        cases h1' with
        | tup g1 g2 =>
          have e := ints_of g2
          subst e
          exact ⟨_, rfl, g1⟩
      · exact hb b hm
theorem DnA.of_pairs {H : Hp} : ∀ {bs : List (V × List Int)}, (∀ b ∈ bs, Dn K H b.1 (tupI b.2)) → DnA K H (bs.map (·.1)) ((bs.map (·.2)).map tupI)
  | [], _ => .nil
  | b :: bs, h => .cons (h b (.head _)) (DnA.of_pairs fun c hc => h c (.tail _ hc))
theorem sort_fst {bs : List (V × List Int)} : (bs.mergeSort leT).map (·.2) = sortL (bs.map (·.2)) := PySem.W.sort_maps (r := leT) (s := fun a b => !ltI b a) (fun b : V × List Int => b.2) fun _ _ _ _ => rfl
theorem cal_sortT : Cal K (rSortT K) (one1 sortTD) := by
  refine cal_one ?_
  intro T S v d Hb H n P Q w hv h q
  have fin : ∀ {a : Addr} {bs : List (V × List Int)}, (∀ b ∈ bs, TupI K Hb b.1 b.2 ∧ Dn K Hb b.1 (tupI b.2)) → HdOk (bs.map (·.2)) → (SqL K H a (bs.map (·.1)) ∨ SqT K H a (bs.map (·.1))) → P (.lst ((sortL (bs.map (·.2))).map tupI)) n → rSortT K [.ref a] H Q := by
    intro a bs hb hh hs hp
    refine ⟨a, bs, rfl, hs, fun b hm => ?_, hh, fun p hp' => ?_⟩
    · obtain ⟨⟨t, e, ht⟩, _⟩ := hb b hm
      exact ⟨t, e, ex_t w.ex ht⟩
    · have hd : ∀ b ∈ bs.mergeSort leT, Dn K Hb b.1 (tupI b.2) := fun b hm => (hb b ((List.mergeSort_perm bs leT).mem_iff.mp hm)).2
      refine q.new w hp' (.lst (SqL.of upd_same) ?_) hp
      rw [← sort_fst]
      exact (DnA.of_pairs hd).up (Ex.new (free_of w.ex hp'))
  cases hv with
  | @lst a vs ds g1 g2 =>
    obtain ⟨nss, rfl, hne, h⟩ := h
    obtain ⟨bs, rfl, rfl, hb⟩ := tups_of g2
    exact fin hb hne (.inl (ex_l w.ex g1)) h
  | @tup a vs ds g1 g2 =>
    obtain ⟨nss, rfl, hne, h⟩ := h
    obtain ⟨bs, rfl, rfl, hb⟩ := tups_of g2
    exact fin hb hne (.inr (ex_t w.ex g1)) h
  | _ => exact h.elim
def sortTID : D → (D → Prop) → Prop := fun d k => match d with
  | .tup xs => ∃ ns : List Int, xs = ns.map D.int ∧ ∀ ns' : List Int, ns'.Perm ns → ns'.Pairwise (· ≤ ·) → k (.lst (ns'.map D.int))
  | _ => False
theorem cal_sortTI : Cal K (rSortTI K) (one1 sortTID) := by
  refine cal_one ?_
  intro T S v d Hb H n P Q w hv h q
  cases hv with
  | @tup a vs ds g1 g2 =>
    obtain ⟨ns, rfl, h⟩ := h
    have e := ints_of g2
    subst e
    exact ⟨a, ns, rfl, ex_t w.ex g1, fun ns' p h1 h2 hp => q.new w hp (.lst (SqL.of upd_same) (DnA.ints ns')) (h ns' h1 h2)⟩
  | _ => exact h.elim
end
end DL

/-! min, max of a pair; in of tuples of tuples; xs[::-1]; pop(); extend; dicts of one's own by any key -/
namespace SCo
open L2 PySem PySem.Spec PyProof.Rows PySem.W
section
variable {X : Cx}
theorem alike2 (i j : Int) : PySem.W.AlikeAll [.int i, .int j] := by
  have h : ∀ x ∈ [PyData.int i, PyData.int j], ∃ k, x = .int k := by simp
  refine ⟨fun x hx y hy => ?_, fun x hx => ?_⟩
  · obtain ⟨a, rfl⟩ := h x hx
    obtain ⟨b, rfl⟩ := h y hy
    rfl
  · obtain ⟨a, rfl⟩ := h x hx
    exact fun z => nomatch z
def rPair (K : PySem.W.Frag) (f : Int → Int → Int) : List V → Hp → VK → Prop := fun vs H Q => ∃ (a : Addr) (i j : Int), vs = [.ref a] ∧ SqT K H a [.int i, .int j] ∧ Q (.int (f i j)) H
theorem cr_minT {k0 : Nat} (hr : Room k0 X.A) (calm : X.calm = true := by rfl) : CallR X (.builtin "min") (rPair X.K min) := by
  intro pins s σ H vs us Q I r h
  obtain ⟨a, i, j, rfl, hs, q⟩ := h
  rw [Vals.ref1 r]
  obtain ⟨its, rv, hl, hz⟩ := I.tuple hs
  have rd := reads_ints (h := s.heap) (vals_ints' (ns := [i, j]) rv)
  refine PySem.W.min_tuple_data (xs := [.int j]) (I.ok.hd calm) hl (by simpa using rd) (alike2 i j) (by have := hr.un; show X.A.units + 1 + 0 < cLine; omega) fun k v h' tk bs _ hv kp => ?_
  have e : PySem.W.minD (.int i) [.int j] = .int (min i j) := PySem.W.minD_ints i [j]
  rw [e] at hv
  cases hv with
  | int _ t => exact ⟨.int (min i j), H, I.un (t' := tk) (Un.kept kp) (I.hok.kept kp), ⟨_, rfl⟩, q⟩
theorem cr_maxT {k0 : Nat} (hr : Room k0 X.A) (calm : X.calm = true := by rfl) : CallR X (.builtin "max") (rPair X.K max) := by
  intro pins s σ H vs us Q I r h
  obtain ⟨a, i, j, rfl, hs, q⟩ := h
  rw [Vals.ref1 r]
  obtain ⟨its, rv, hl, hz⟩ := I.tuple hs
  have rd := reads_ints (h := s.heap) (vals_ints' (ns := [i, j]) rv)
  refine PySem.W.max_tuple_data (xs := [.int j]) (I.ok.hd calm) hl (by simpa using rd) (alike2 i j) (by have := hr.un; show X.A.units + 1 + 0 < cLine; omega) fun k v h' tk bs _ hv kp => ?_
  have e : PySem.W.maxD (.int i) [.int j] = .int (max i j) := PySem.W.maxD_ints i [j]
  rw [e] at hv
  cases hv with
  | int _ t => exact ⟨.int (max i j), H, I.un (t' := tk) (Un.kept kp) (I.hok.kept kp), ⟨_, rfl⟩, q⟩
end
end SCo
namespace DL
open L2 PySem PySem.Spec PyProof.Rows SCo
open Evl (Ex ex_l ex_t sz_of)
section
variable {K : PySem.W.Frag} {T : Tb} {S : SA} {E : XK} {te tk : TE} {FE FK : DT}
def pairD (f : Int → Int → Int) : D → (D → Prop) → Prop := fun d k => match d with
  | .tup [.int i, .int j] => k (.int (f i j))
  | _ => False
theorem cal_pair {f : Int → Int → Int} : Cal K (rPair K f) (one1 (pairD f)) := by
  refine cal_one ?_
  intro T S v d Hb H n P Q w hv h q
  unfold pairD at h
  split at h
  · cases hv with
    | @tup a vs ds g1 g2 =>
      cases g2 with
      | cons h1 h2 =>
        cases h1
        cases h2 with
        | cons h3 h4 =>
          cases h3
          cases h4
          exact ⟨a, _, _, rfl, ex_t w.ex g1, q.now w (.int _) h⟩
  · exact h.elim
/-! ### xs[::-1] -/
def xRevL (F : DT) : DT := fun ρ n P XP => F ρ n (fun d n1 => match d with | .lst xs => P (.lst xs.reverse) n1 | _ => False) XP
theorem rd_revL (h1 : DL.Rd K T S E te FE) : DL.Rd K T S E (tRevL K te) (xRevL FE) := fun σ ρ Hb H n P XP Q w sl h q x =>
  h1 σ ρ Hb H n _ XP _ w sl h (fun d v n1 Hb1 H1 s hd p => by
    cases hd with
    | @lst a vs ds g1 g2 => exact ⟨a, vs, rfl, ex_l s.wd.ex g1, fun l hl => (q.step s).new s.wd hl (.lst (SqL.of upd_same) (g2.rev.up (Ex.new (free_of s.wd.ex hl)))) p⟩
    | _ => exact p.elim) x
/-! ### y = xs.pop() -/
def xsSetPop0 (i j : Nat) : DTS := fun DD ρ n XP => slotO ρ j fun xs => ∃ (ys : List D) (y : D), xs = ys ++ [y] ∧ DD.nx ((ρ.set j (.ol ys)).set i (.d y)) n
theorem DnA.last : ∀ {vs : List V} {ds : List D} {d : D} {H : Hp}, DnA K H vs (ds ++ [d]) → ∃ us u, vs = us ++ [u] ∧ DnA K H us ds ∧ Dn K H u d
  | _, [], _, _, h => by
    cases h with
    | cons h1 h2 =>
      cases h2
      exact ⟨[], _, rfl, .nil, h1⟩
  | _, e :: ds, _, _, h => by
    cases h with
    | cons h1 h2 =>
      obtain ⟨us, u, rfl, h3, h4⟩ := DnA.last h2
      exact ⟨_ :: us, u, rfl, .cons h1 h3, h4⟩
theorem rds_setPop0 {i j : Nat} : RdS K T S E (tAsg (tBM0 K "list" rPop (tVar j)) (gName i)) (xsSetPop0 i j) := fun σ ρ Hb0 H0 n0 Hb H n DD XP D a sl h q x => by
  obtain ⟨xs, p, vs, e, es, e3, e4, e5, e6, e8, e7, h⟩ := sl.sl.own h
  obtain ⟨ys, y, rfl, pp⟩ := h
  obtain ⟨us, u, rfl, h7, hu⟩ := DnA.last e7
  refine ⟨.ref p, es, .inl ⟨rfl, _, SqL.of e3⟩, ?_⟩
  refine ⟨p, _, u, rfl, rfl, e3, by simp, ?_⟩
  have z := own_stmt (us := us) (ys := ys) (DD := { nx := fun ρ' n' => DD.nx (ρ'.set i (.d y)) n', rt := DD.rt, bk := DD.bk, ct := DD.ct }) (D := { D with nx := fun σ' H' => D.nx (σ'.set i (some u)) H' }) a sl ⟨fun ρ' σ' n' Hb' H' e' s' sl' p' => ?_, q.rt, q.bk, q.ct⟩ e es e3 e4 e5 e6 e8 h7 pp
  · rw [List.dropLast_concat]
    exact z
  · exact q.nx _ _ n' Hb' H' e' s' (sl'.set (hu.up e')) p'
/-! ### xs.extend([..]) -/
/-! ### k not in x, x[k] = e, x a dict of one's own -/
def keyIn (k : Key) (ks : List Key) : Bool := ks.any fun x => decide (x = k)
theorem keyIn_mem {k : Key} {ks : List Key} : keyIn k ks = true ↔ k ∈ ks := by
  unfold keyIn
  rw [List.any_eq_true]
  constructor
  · rintro ⟨x, h1, h2⟩
    rw [← of_decide_eq_true h2]
    exact h1
  · exact fun h => ⟨k, h, by simp⟩
def xtNotInE (i : Nat) (F : DT) : DTT := fun ρ n P XP => F ρ n (fun d n1 => ∃ k, keyD d = some k ∧ slotE ρ i fun ks _ => P (!keyIn k ks) n1) XP
theorem val_some {kvs : List (Key × V)} {k : Key} : (valV kvs k).isSome = keyIn k (kvs.map (·.1)) := by
  unfold valV
  cases f : kvs.find? fun kv => decide (kv.1 = k) with
  | none =>
    have h := List.find?_eq_none.mp f
    symm
    show keyIn k (kvs.map (·.1)) = false
    rw [Bool.eq_false_iff]
    intro hm
    obtain ⟨kv, h1, h2⟩ := List.mem_map.mp (keyIn_mem.mp hm)
    exact h kv h1 (by simpa using h2)
  | some kv =>
    have h1 := List.mem_of_find?_eq_some f
    have h2 := List.find?_some f
    symm
    exact keyIn_mem.mpr (List.mem_map.mpr ⟨kv, h1, by simpa using h2⟩)
theorem rdt_notInE {i : Nat} (h1 : DL.Rd K T S E te FE) : RdT K T S E (tB (tDNotIn te (tVar i))) (xtNotInE i FE) := fun σ ρ Hb H n P XP Q w sl h q x => by
  refine h1 σ ρ Hb H n _ XP _ w sl h (fun d v n1 Hb1 H1 s hd pp => ?_) x
  obtain ⟨k, ek, pp⟩ := pp
  obtain ⟨ks, ds, p, kvs, e, es, e3, e4, e5, e6, e8, e7, e9, pp⟩ := (sl.step s).ownE pp
  refine ⟨.ref p, es, p, valV kvs k, rfl, .inl ⟨kvs, k, .inl e3, key_rel hd ek, rfl⟩, !(valV kvs k).isSome, rfl, ?_⟩
  rw [val_some, e7]
  exact q _ _ _ _ s pp
def xsPutK (i : Nat) (FK F : DT) : DTS := fun DD ρ n XP => noOd (ρ.set i .no) = true ∧ (∃ ks ds, ρ[i]? = some (.od ks ds)) ∧ F ρ n (fun d n1 => FK ρ n1 (fun kd n2 => ∃ k, keyD kd = some k ∧ slotE ρ i fun ks ds => k ∉ ks ∧ ks.length ≤ 100 ∧ DD.nx (ρ.set i (.od (ks ++ [k]) (ds ++ [d]))) n2) XP) XP
theorem rds_putK {i : Nat} (hk : DL.Rd K T S E tk FK) (h1 : DL.Rd K T S E te FE) : RdS K T S E (sDPut (tVar i) tk te) (xsPutK i FK FE) := fun σ ρ Hb0 H0 n0 Hb H n DD XP D a sl h q x => by
  obtain ⟨no, ⟨ks0, ds0, e0⟩, h⟩ := h
  refine h1 σ ρ Hb H n _ XP _ a.wd sl.sl h (fun d v n1 Hb1 H1 s1 hd pp => ?_) (x.step a)
  obtain ⟨_, _, p0, _, _, es0, _⟩ := (sl.step s1).sl.ownE (k := fun _ _ => True) (i := i) (by unfold slotE; rw [e0]; trivial)
  refine ⟨.ref p0, es0, ?_⟩
  refine hk σ ρ Hb1 H1 n1 _ XP _ s1.wd (sl.step s1).sl pp (fun kd kv n' Hb' H' s2 hkd pp => ?_) ((x.step a).step s1)
  obtain ⟨k, ek, pp⟩ := pp
  have s := s1.trans s2
  have sl2 := sl.step s
  obtain ⟨ks, ds, p, kvs, e, es, e3, e4, e5, e6, e8, e7, e9, hk, hl, pp⟩ := sl2.sl.ownE pp
  have ep0 : p0 = p := by
    rw [es0] at es
    cases es
    rfl
  subst ep0
  have f0 : Fresh H0 p0 := sl.fr i _ p0 e rfl es
  have ep : putK kvs k v = kvs ++ [(k, v)] := by
    unfold putK
    refine if_neg (fun y => ?_)
    obtain ⟨kv2, hm, hd2⟩ := List.any_eq_true.mp y
    have e0 : kv2.1 = k := of_decide_eq_true hd2
    exact hk (by rw [← e7, ← e0]; exact List.mem_map.mpr ⟨kv2, hm, rfl⟩)
  have hd' := hd.up s2.ex
  refine ⟨p0, upd H' p0 (.dK (kvs ++ [(k, v)])), rfl, ?_, ?_⟩
  · refine .inl ⟨kvs, k, e3, key_rel hkd ek, Evl.sz_lt ?_, by rw [ep]⟩
    have e9l : kvs.length = ks.length := by rw [← e7, List.length_map]
    omega
  · have s3 := (a.trans s).put (u := .dK (kvs ++ [(k, v)])) f0 e4 e3 (fun _ z => by cases z) (fun _ z => by cases z) (fun _ z => by cases z) e5 e6
    have b1 : Slots K S Hb' H' n' (ρ.set i .no) (σ.set i (some (.ref p0))) := sl2.sl.forget
    have b2 := b1.putE (us := kvs ++ [(k, v)]) e3 e5 e6 no
    have b3 := b2.setX (i := i) (s := .od (ks ++ [k]) (ds ++ [d])) (o := some (.ref p0)) ⟨p0, _, rfl, upd_same, e4, e5, e6, e8, by rw [List.map_append, e7]; rfl, by rw [List.map_append]; exact e9.app (.one hd')⟩ (fun _ z => by cases z)
    rw [set_set, set_set] at b3
    have hσ : σ.set i (some (V.ref p0)) = σ := set_get es
    have b4 := sl2.fr.setF (i := i) (s := .od (ks ++ [k]) (ds ++ [d])) f0 sl.sl.len
    rw [hσ] at b3 b4
    exact q.nx _ _ n' Hb' _ s.ex s3 ⟨b3, b4⟩ pp
end
end DL

/-! facts of itertools.combinations -/
namespace RZ
open PySem PySem.Spec PyProof.Rows L2
namespace Cb
end Cb
end RZ

namespace RZ
open PySem PySem.Spec PyProof.Rows L2
open AutoSeq1 (wpAny_loadPart')
section
variable {prog : Program} {w : World} {A : Around} {E : Value → Shared → Prop} {s : Shared}
end
end RZ

namespace RZ
open PySem PySem.Spec PyProof.Rows L2
open AutoSeq1 (wpAny_loadPart')
section
variable {prog : Program} {w : World} {A : Around} {E : Value → Shared → Prop} {s : Shared} {c p : Addr} {items : Array Value}
end
end RZ

/-! combinations(range(n), 2): as a loop's iterator -/
namespace DL
/-- all pairs of items, the earlier one first -/
def pairsL {α : Type} : List α → List (α × α)
  | [] => []
  | x :: xs => xs.map (fun y => (x, y)) ++ pairsL xs
end DL
namespace RZ
open PySem PySem.Spec PyProof.Rows L2
end RZ
namespace DL
open L2 PySem PySem.Spec PyProof.Rows
open Evl (Ex ex_l ex_t sz_of)
section
variable {K : PySem.W.Frag} {T : Tb} {S : SA} {E : XK} {Hb H Hb1 H1 : Hp} {n n1 : Nat}
end
end DL

/-! dicts of one's own whose keys are tuples of ints: setdefault, sorted(d); sorted(set(xs)) of pairs; xs.index(pair) -/
namespace SCo
open L2 PySem PySem.Spec PyProof.Rows
section
variable {X : Cx} {pins : List (Addr × Obj)} {σ : L2.St} {H : Hp} {s : Shared} {a b : Addr} {r : Value} {v d : V} {A : Around} {E : Value → Shared → Prop}
end
section
variable {X : Cx} {o e f : Expr} {td ty tx : TE} {apos cpos : Pos}
end
section
variable {prog : Program} {w : World} {A : Around} {E : Value → Shared → Prop} {s : Shared}
end
section
variable {prog : Program} {w : World} {A : Around} {E : Value → Shared → Prop} {s : Shared} {T : String} {r d : Addr} {n : Nat} {P : Nat → Value → Prop} {OK : Heap → Prop}
end
def unl (k : List Key) : List Int := k.map fun | .inl i => i | .inr _ => 0
theorem unl_inl (ns : List Int) : unl (ns.map Sum.inl) = ns := by
  unfold unl
  rw [List.map_map]
  exact List.map_id' ns
section
variable {X : Cx}
end
end SCo

/-! dicts of one's own by tuples of ints, on data -/
namespace DL
open L2 PySem PySem.Spec PyProof.Rows SCo
open Evl (Ex ex_l ex_t sz_of)
section
variable {K : PySem.W.Frag} {T : Tb} {S : SA} {E : XK} {Hb H Hb1 H1 : Hp} {n n1 : Nat} {te : TE} {FE : DT}
def slotT (ρ : List SV) (i : Nat) (k : List (List Key) → List D → Prop) : Prop := match ρ[i]? with
  | some (.ot ks ds) => k ks ds
  | _ => False
theorem slotT_zero {ks : List (List Key)} {ds : List D} {ρ : List SV} {k : List (List Key) → List D → Prop} : slotT (.ot ks ds :: ρ) 0 k = k ks ds := rfl
theorem slotT_succ {s : SV} {ρ : List SV} {i : Nat} {k : List (List Key) → List D → Prop} : slotT (s :: ρ) (i + 1) k = slotT ρ i k := rfl
/-- the rest of the frame where the dict at p is rewritten -/
theorem Slots.putT {ρ : List SV} {σ : L2.St} {p : Addr} {kvs us : List (List Key × V)} (sl : Slots K S Hb H n ρ σ) (h1 : H p = some (.dT kvs)) (h3 : p ≠ S.a) (h4 : p ≠ S.l) (no : noOd ρ = true) : Slots K S Hb (upd H p (.dT us)) n ρ σ := by
  have keep : ∀ {b : Addr} {o : HO}, H b = some o → b ≠ p → upd H p (.dT us) b = some o := fun e hb => by rw [upd_ne hb]; exact e
  refine ⟨sl.len, fun j s e => ?_, sl.ap⟩
  obtain ⟨o, e1, e2⟩ := sl.ok j s e
  refine ⟨o, e1, ?_⟩
  cases s with
  | no => trivial
  | d x => exact e2
  | st =>
    obtain ⟨e3, st⟩ := e2
    obtain ⟨g1, g2, ls, cs, m, t, g3, g4, g5, g6, g7, g8, rest⟩ := st
    exact ⟨e3, g1, g2, ls, cs, m, t, g3, g4, g5, keep g6 h3.symm, keep g7 h4.symm, g8, rest⟩
  | ol zs =>
    obtain ⟨q, ws, e3, e4, rest⟩ := e2
    exact ⟨q, ws, e3, keep e4 (fun z => by rw [z, h1] at e4; cases e4), rest⟩
  | me y C ms es2 =>
    obtain ⟨e3, dx, fs, e4, rest⟩ := e2
    exact ⟨e3, dx, fs, keep e4 (fun z => by rw [z, h1] at e4; cases e4), rest⟩
  | od ks es2 => exact nomatch (noOd_get no e)
  | ot ks es2 => exact nomatch (noOd_get no e)
  | fv F =>
    obtain ⟨f, c, e3, e4, e5, rest⟩ := e2
    exact ⟨f, c, e3, e4, keep e5 (fun z => by rw [z, h1] at e5; exact codeO_no (o := .dT kvs) (fun _ z => by cases z) (Option.some.inj e5)), rest⟩
end
end DL

/-! [x[y] for y in sorted(x)], x a dict of one's own by tuples of ints; sorted(set(xs)) of pairs; xs.index(pair) -/
namespace DL
open L2 PySem PySem.Spec PyProof.Rows SCo
open Evl (Ex ex_l ex_t sz_of)
section
variable {K : PySem.W.Frag} {T : Tb} {S : SA} {E : XK} {Hb H Hb1 H1 : Hp} {n n1 : Nat} {te : TE} {FE : DT}
theorem vals_at {f : List Int → D} : ∀ {kvs : List (List Key × V)} {nss : List (List Int)}, kvs.map (·.1) = nss.map (fun ns => ns.map Sum.inl) → DnA K Hb (kvs.map (·.2)) (nss.map f) → ∀ y ∈ nss, ∃ v, valV kvs (y.map Sum.inl) = some v ∧ Dn K Hb v (f y)
  | [], [], _, _, y, hy => nomatch hy
  | [], _ :: _, e, _, _, _ => by cases e
  | _ :: _, [], e, _, _, _ => by cases e
  | (k, v) :: kvs, z :: nss, e, h, y, hy => by
    obtain ⟨e1, e2⟩ := List.cons.inj e
    have e1 : k = z.map Sum.inl := e1
    cases h with
    | cons h1 h2 =>
      by_cases hz : z = y
      · subst hz
        refine ⟨v, ?_, h1⟩
        unfold valV
        rw [List.find?_cons_of_pos (by simp [e1])]
        rfl
      · have hy' : y ∈ nss := (List.mem_cons.mp hy).resolve_left fun z0 => hz z0.symm
        obtain ⟨v', q1, q2⟩ := vals_at e2 h2 y hy'
        refine ⟨v', ?_, q2⟩
        have hk : k ≠ y.map Sum.inl := fun z0 => by
          rw [e1] at z0
          have z1 := congrArg unl z0
          rw [unl_inl, unl_inl] at z1
          exact hz z1
        unfold valV at q1 ⊢
        rw [List.find?_cons_of_neg (by simpa using hk)]
        exact q1
/-! ### xs.index(y), xs tuples of ints -/
def dT (ns : List Int) : PyData := .tuple (ns.map .int)
theorem toPs_ints : ∀ ns : List Int, toPs (ns.map D.int) = some (ns.map .int)
  | [] => rfl
  | n :: ns => by
    show (match toP (D.int n), toPs (ns.map D.int) with | some p, some ps => some (p :: ps) | _, _ => none) = _
    rw [toPs_ints ns]
    rfl
theorem toP_tup (ns : List Int) : toP (tupI ns) = some (dT ns) := by
  show (toPs (ns.map D.int)).map PyData.tuple = _
  rw [toPs_ints]
  rfl
theorem toPs_tups : ∀ nss : List (List Int), toPs (nss.map tupI) = some (nss.map dT)
  | [] => rfl
  | n :: ns => by
    show (match toP (tupI n), toPs (ns.map tupI) with | some p, some ps => some (p :: ps) | _, _ => none) = _
    rw [toPs_tups ns, toP_tup]
    rfl
theorem lay_tups : ∀ nss : List (List Int), PyData.canLayAll0 (nss.map dT) = true
  | [] => by simp [PyData.canLayAll0]
  | n :: ns => by simp [PyData.canLayAll0, dT, PyData.canLay0, lay_ints n]; exact lay_tups ns
theorem depth_tups : ∀ nss : List (List Int), PyData.depthAll (nss.map dT) ≤ 1
  | [] => by simp [PyData.depthAll]
  | n :: ns => by
    have z := depth_tups ns
    simp [PyData.depthAll, dT, PyData.depth, depth_ints n]
    omega
theorem shaped_tup (ns : List Int) : SeqAt.shaped (dT ns) = true := by
  unfold SeqAt.shaped dT
  simp [PyData.canLay0, lay_ints ns, PyData.depth, depth_ints ns]
theorem shaped_tups (nss : List (List Int)) : SeqAt.shaped (.list (nss.map dT)) = true := by
  unfold SeqAt.shaped
  have z := depth_tups nss
  simp [PyData.canLay0, lay_tups nss, PyData.depth]
  omega
theorem eqv_ints : ∀ (a b : List Int), PyData.eqvAll (a.map PyData.int) (b.map PyData.int) = decide (a = b)
  | [], [] => by simp [PyData.eqvAll]
  | [], _ :: _ => by simp [PyData.eqvAll]
  | _ :: _, [] => by simp [PyData.eqvAll]
  | x :: a, y :: b => by
    simp only [List.map_cons, PyData.eqvAll, PyData.eqv, eqv_ints a b]
    by_cases h : x = y
    · subst h; simp
    · simp [h]
theorem eqv_dT (a b : List Int) : PyData.eqv (dT a) (dT b) = decide (a = b) := by
  unfold dT
  simp only [PyData.eqv]
  exact eqv_ints a b
end
end DL

/-! list(range(a, b)) -/
namespace DL
open L2 PySem PySem.Spec PyProof.Rows
open Evl (Ex ex_l ex_t sz_of)
section
variable {K : PySem.W.Frag} {T : Tb} {S : SA} {E : XK} {ta tb : TE} {FA FB : DT}
theorem hu65_of {k : Nat} {A : Around} (hr : Room k A) : A.units + 65 < cLine := by have := hr.un; omega
end
end DL

/-! list + list; in of lists -/
namespace SCo
open L2 PySem PySem.Spec PyProof.Rows
def rCatL (K : PySem.W.Frag) : R2 := fun x y H Q => ∃ l b xs zs, x = .ref l ∧ y = .ref b ∧ SqL K H l xs ∧ SqL K H b zs ∧ xs.length + zs.length ≤ sizeLine ∧ ∀ p, H p = none → Q (.ref p) (upd H p (.lst (xs ++ zs)))
theorem op_catL {X : Cx} : OpR X (binaryOp .Add) (rCatL X.K) := by
  intro pins s σ H x y v u Q I rx ry h
  obtain ⟨l, b, xs, zs, rfl, rfl, h1, h2, hz, q⟩ := h
  cases rx
  cases ry
  obtain ⟨its, r1, p1, z1⟩ := I.list h1
  obtain ⟨its2, r2, p2, z2⟩ := I.list h2
  obtain ⟨⟨c1, d1, x1, k1⟩, g1, e1, n1, f1⟩ := id p1.isList
  obtain ⟨⟨c2, d2, x2, k2⟩, g2, e2, n2, f2⟩ := id p2.isList
  dsimp only at e1 f1 e2 f2
  subst e1 f1 e2 f2
  have l1 := r1.length
  have l2 := r2.length
  refine concat_meets ⟨_, g1, rfl⟩ ⟨_, g2, rfl⟩ noFill_list_add seq_list_add PySem.F.slot_list_add PySem.F.entry_list_add (PySem.F.args_list_add_2 _ _) (list_addW l b its.toArray its2.toArray n1 n2 d1 d2 k1 k2 (by rw [List.size_toArray, List.size_toArray]; omega)) ⟨g1, g2, ?_⟩
  have e : its.toArray ++ its2.toArray = (its ++ its2).toArray := by simp
  rw [e]
  exact ⟨.ref _, _, I.lnew (t' := s.toks) (r1.append r2) (by rw [List.length_append]; omega), rfl, q _ I.fresh⟩
end SCo
namespace DL
open L2 PySem PySem.Spec PyProof.Rows SCo
open Evl (Ex ex_l ex_t sz_of)
section
variable {K : PySem.W.Frag} {T : Tb} {S : SA} {E : XK} {te : TE} {FE : DT}
def addLD : D → D → (D → Prop) → Prop
  | .lst xs, .lst ys, k => xs.length + ys.length ≤ 100000 ∧ k (.lst (xs ++ ys))
  | _, _, _ => False
theorem o2_addL : Op2 K (rCatL K) addLD := by
  intro T S x y a b Hb H n P Q w hx hy h q
  cases hx with
  | @lst a xs ds h1 h2 =>
    cases hy with
    | @lst b ys es h3 h4 =>
      obtain ⟨hl, h⟩ := h
      exact ⟨a, b, xs, ys, rfl, rfl, ex_l w.ex h1, ex_l w.ex h3, sz_of (by rw [h2.len, h4.len]; exact hl), fun p hp => q.new w hp (.lst (SqL.of upd_same) ((h2.app h4).up (Ex.new (free_of w.ex hp)))) h⟩
    | _ => exact h.elim
  | _ => exact h.elim
/-- an int in a list of ints -/
def inLI : D → D → (D → Prop) → Prop := fun a b k => ∃ (i : Int) (ns : List Int), a = .int i ∧ b = .lst (ns.map .int) ∧ k (.bl (ns.any (· == i)))
theorem toPs_intsL : ∀ ns : List Int, toP (.lst (ns.map D.int)) = some (.list (ns.map .int)) := fun ns => by
  show (toPs (ns.map D.int)).map PyData.list = _
  rw [toPs_ints]
  rfl
theorem any_eqv (i : Int) : ∀ ns : List Int, ((ns.map PyData.int).any fun z => PyData.eqv z (.int i)) = ns.any (· == i)
  | [] => rfl
  | n :: ns => by
    rw [List.map_cons, List.any_cons, List.any_cons, any_eqv i ns]
    rfl
theorem o2_inLI : Op2 K (rInD K) inLI := by
  intro T S x y a b Hb H n P Q w hx hy h q
  obtain ⟨i, ns, rfl, rfl, h⟩ := h
  refine ⟨.int i, ns.map .int, Dn.toDp _ (w.dn hx) rfl, Dn.toDp _ (w.dn hy) (toPs_intsL ns), rfl, shaped_ints ns, ?_⟩
  rw [any_eqv]
  exact q.now w (.bl _) h
end
end DL

/-! set(xs) of tuples of ints, xs of any length, few different ones -/
namespace SCo
open L2 PySem PySem.Spec PyProof.Rows
section
variable {P : Program} {w : World} {A : Around} {E : Value → Shared → Prop} {s : Shared}
variable {I : Addr} {fp wr : List Addr} {G : Array GenState → Array GenState → Prop} {n : Nat} {Pv : Nat → Value → Prop} {St : Nat → Shared → Prop} {R : Result → Shared → Prop} {S : Addr} {ks : List (Addr × List Int)} {h0 : Heap}
end
end SCo

/-! zip of three tuples of one length: as a walk, and as a value that a comprehension walks -/
namespace RZ
open PySem PySem.Calls PyProof.Rows PyProof.V PySem.Spec PySem.W L2
abbrev IsTri (h : Heap) (T : Addr) (a b c : Value) : Prop := h.get? T = some { cls := .type "tuple", data := .seq #[a, b, c] }
/-- where the zip of three tuples and its parts stand, in h, with what was elsewhere in h0 -/
structure Z3 (h0 h : Heap) (z TI TO i1 i2 i3 l1 l2 l3 : Addr) (f0 a b c : Value) (k1 k2 k3 : Nat) : Prop where
  zp : IsZip h z TI TO f0
  ti : IsTri h TI (.ref i1) (.ref i2) (.ref i3)
  to : IsTri h TO a b c
  one : h.IsTupleIter i1 l1 k1
  two : h.IsTupleIter i2 l2 k2
  thr : h.IsTupleIter i3 l3 k3
  keep : ∀ d o, d ∉ [z, TI, TO, i1, i2, i3] → h0.get? d = some o → h.get? d = some o
  sz : h.objs.size = h0.objs.size
section
variable {h0 h h' : Heap} {z TI TO i1 i2 i3 l1 l2 l3 : Addr} {f0 a b c : Value} {k1 k2 k3 : Nat}
theorem ap3 (D : [z, TI, TO, i1, i2, i3].Nodup) : (z ≠ TI ∧ z ≠ TO ∧ z ≠ i1 ∧ z ≠ i2 ∧ z ≠ i3) ∧ (TI ≠ TO ∧ TI ≠ i1 ∧ TI ≠ i2 ∧ TI ≠ i3) ∧ (TO ≠ i1 ∧ TO ≠ i2 ∧ TO ≠ i3) ∧ (i1 ≠ i2 ∧ i1 ≠ i3) ∧ i2 ≠ i3 := by
  simpa using D
theorem Z3.base (x : Z3 h0 h z TI TO i1 i2 i3 l1 l2 l3 f0 a b c k1 k2 k3) : Z3 h h z TI TO i1 i2 i3 l1 l2 l3 f0 a b c k1 k2 k3 := ⟨x.zp, x.ti, x.to, x.one, x.two, x.thr, fun _ _ _ g => g, rfl⟩
theorem Z3.push (x : Z3 h0 h z TI TO i1 i2 i3 l1 l2 l3 f0 a b c k1 k2 k3) (o : Obj) : Z3 (h.push o) (h.push o) z TI TO i1 i2 i3 l1 l2 l3 f0 a b c k1 k2 k3 :=
  ⟨Heap.get?_push_of_some _ x.zp, Heap.get?_push_of_some _ x.ti, Heap.get?_push_of_some _ x.to, x.one.at fun o e => Heap.get?_push_of_some _ e, x.two.at fun o e => Heap.get?_push_of_some _ e, x.thr.at fun o e => Heap.get?_push_of_some _ e, fun _ _ _ g => g, rfl⟩
theorem Z3.lt (x : Z3 h0 h z TI TO i1 i2 i3 l1 l2 l3 f0 a b c k1 k2 k3) : ∀ q ∈ [z, TI, TO, i1, i2, i3], q < h.objs.size := fun q hq => by
  simp only [List.mem_cons, List.not_mem_nil, or_false] at hq
  rcases hq with rfl | rfl | rfl | rfl | rfl | rfl
  · exact Heap.lt_size x.zp
  · exact Heap.lt_size x.ti
  · exact Heap.lt_size x.to
  · obtain ⟨_, e, _⟩ := x.one; exact Heap.lt_size e
  · obtain ⟨_, e, _⟩ := x.two; exact Heap.lt_size e
  · obtain ⟨_, e, _⟩ := x.thr; exact Heap.lt_size e
theorem Z3.tup (x : Z3 h0 h z TI TO i1 i2 i3 l1 l2 l3 f0 a b c k1 k2 k3) {l : Addr} {us : Array Value} (n : l ∉ [z, TI, TO, i1, i2, i3]) (hl : h0.IsTuple l us) : h.IsTuple l us := hl.at fun o g => x.keep _ o n g
end
section
variable {prog : Program} {w : World} {A : Around} {E : Value → Shared → Prop} {s : Shared}
end
end RZ
namespace RZ
open PySem PySem.Calls PyProof.Rows PyProof.V PySem.Spec PySem.W L2
theorem Z3.let {h0 h h' : Heap} {z TI TO i1 i2 i3 l1 l2 l3 : Addr} {f0 f1 a b c : Value} {k1 k2 k3 : Nat} (x : Z3 h0 h z TI TO i1 i2 i3 l1 l2 l3 f0 a b c k1 k2 k3) (D : [z, TI, TO, i1, i2, i3].Nodup) (hz : IsZip h' z TI TO f1) (e : Heap.SameBut z h h') : Z3 h' h' z TI TO i1 i2 i3 l1 l2 l3 f1 a b c k1 k2 k3 := by
  obtain ⟨⟨d1, d2, d3, d4, d5⟩, _⟩ := ap3 D
  exact ⟨hz, (e.2 _ d1.symm).trans x.ti, (e.2 _ d2.symm).trans x.to, x.one.at fun o g => (e.2 _ d3.symm).trans g, x.two.at fun o g => (e.2 _ d4.symm).trans g, x.thr.at fun o g => (e.2 _ d5.symm).trans g, fun _ _ _ g => g, rfl⟩
end RZ
namespace RZ
open PySem PySem.Calls PyProof.Rows PyProof.V PySem.Spec PySem.W L2
def drop (H : Hp) (ds : List Addr) : Hp := fun b => if b ∈ ds then none else H b
end RZ

/-! in of lists of tuples of ints; comprehensions with two fors -/
namespace DL
open L2 PySem PySem.Spec PyProof.Rows SCo
open Evl (Ex ex_l ex_t sz_of)
section
variable {K : PySem.W.Frag} {T : Tb} {S : SA} {E : XK} {Hb H Hb1 H1 : Hp} {n n1 : Nat} {te : TE} {FE : DT}
/-- a list of one's own, not frozen, grows by one -/
theorem Stp.grow {L : Addr} {accV : List V} {u : V} (st5 : Stp K T S Hb H n Hb1 H1 n1) (hL : H L = none) (eL5 : H1 L = some (.lst accV)) (fL5 : Hb1 L = none) (nSa : L ≠ S.a) (nSl : L ≠ S.l) : Stp K T S Hb H n Hb1 (upd H1 L (.lst (accV ++ [u]))) n1 := by
  have w5 := st5.wd
  have nT : ∀ q ∈ T, q.1 ≠ L := fun q hq z => by
    obtain ⟨ps, e, _⟩ := w5.tabs q hq
    rw [z, eL5] at e
    cases e
  refine ⟨st5.ex, ⟨fun b o e => ?_, fun q hq => ?_, w5.tb, ?_, ?_, ?_, w5.nt⟩, fun h0 => ?_, fun b o e1 e2 e3 e4 e5 => ?_, fun b e => st5.dm b (dm_upd (fun _ z => by cases z) b e)⟩
  · rw [upd_ne (fun z => by rw [z, fL5] at e; cases e)]
    exact w5.ex b o e
  · obtain ⟨ps, e, t1, t2⟩ := w5.tabs q hq
    refine ⟨ps, by rw [upd_ne (nT q hq)]; exact e, t1, fun pos cv hcv => ?_⟩
    obtain ⟨c, e1, e2⟩ := t2 pos cv hcv
    refine ⟨c, e1, ?_⟩
    rw [upd_ne (fun z => by rw [z, eL5] at e2; unfold LamX.CodeO at e2; cases e2)]
    exact e2
  · exact w5.sa.upd fun _ z => by cases z
  · exact w5.sl.upd fun _ z => by cases z
  · exact w5.sc.upd fun _ z => by cases z
  · obtain ⟨g1, g2, ls, cs, mm, t, g3, g4, g5, g6, g7, g8, rest⟩ := st5.st h0
    exact ⟨g1, g2, ls, cs, mm, t, g3, g4, g5, by rw [upd_ne nSa.symm]; exact g6, by rw [upd_ne nSl.symm]; exact g7, g8, rest⟩
  · have hb : b ≠ L := ne_of_none e1 hL
    rw [upd_ne hb]
    exact st5.own b o e1 e2 e3 e4 e5
/-- nothing but data in the slots -/
def plainS (ρ : List SV) : Bool := ρ.all fun s => match s with | .d _ => true | .no => true | _ => false
theorem Slots.plain {ρ : List SV} {σ : L2.St} {Hb' H' : Hp} {n' : Nat} (h : plainS ρ = true) (sl : Slots K S Hb H n ρ σ) (e : Ex Hb Hb') : Slots K S Hb' H' n' ρ σ where
  len := sl.len
  ok := fun i s es => by
    obtain ⟨o, e1, e2⟩ := sl.ok i s es
    refine ⟨o, e1, ?_⟩
    have hp := List.all_eq_true.mp h s (List.mem_of_getElem? es)
    cases s with
    | no => trivial
    | d x =>
      obtain ⟨v, q, hv⟩ := e2
      exact ⟨v, q, hv.up e⟩
    | _ => cases hp
  ap := fun i j p xs ys hne e1 e2 e3 e4 => by
    have hp := List.all_eq_true.mp h _ (List.mem_of_getElem? e1)
    cases hp
end
end DL

/-! an int not in a tuple of ints -/
namespace DL
open L2 PySem PySem.Spec PyProof.Rows
open Evl (Ex ex_l ex_t sz_of)
section
variable {K : PySem.W.Frag}
def notInD : D → D → (D → Prop) → Prop := fun a b k => ∃ (i : Int) (ns : List Int), a = .int i ∧ b = .tup (ns.map .int) ∧ k (.bl (!ns.any (· == i)))
theorem o2_notIn : Op2 K (rIn K true) notInD := by
  intro T S x y a b Hb H n P Q w hx hy h q
  obtain ⟨i, ns, rfl, rfl, h⟩ := h
  cases hx
  cases hy with
  | @tup a xs ds h1 h2 =>
    have ev : ∀ {ns : List Int} {xs : List V}, DnA K Hb xs (ns.map D.int) → xs = ns.map V.int := by
      intro ns
      induction ns with
      | nil => intro xs h; cases h; rfl
      | cons m ns ih =>
        intro xs h
        cases h with
        | cons h1 h2 =>
          cases h1
          rw [ih h2]
          rfl
    have e := ev h2
    subst e
    refine ⟨a, _, rfl, .inr (ex_t w.ex h1), rfl, ?_, ?_⟩
    · simp [List.all_map]; intro x hx; rfl
    · refine q.now w (.bl _) ?_
      have ei : inV (V.int i) (ns.map V.int) = ns.any (· == i) := by
        unfold inV
        rw [List.any_map]
        rfl
      show P (.bl (if true = true then !inV (V.int i) (ns.map V.int) else inV (V.int i) (ns.map V.int))) n
      rw [if_pos rfl, ei]
      exact h
end
end DL

/-! len of a dict -/
namespace DL
open L2 PySem PySem.Spec PyProof.Rows
open Evl (Ex ex_l ex_t sz_of)
section
variable {K : PySem.W.Frag}
def rLenK : List V → Hp → VK → Prop := fun xs H Q => ∃ a kvs, xs = [V.ref a] ∧ H a = some (.dK kvs) ∧ Q (.int kvs.length) H
theorem call_lenK {X : Cx} : CallR X (.builtin "len") rLenK := call_lenD
def lenKD : D → (D → Prop) → Prop
  | .dic ks _, k => k (.int ks.length)
  | _, _ => False
theorem cal_lenK : Cal K rLenK (one1 lenKD) := by
  refine cal_one ?_
  intro T S v d Hb H n P Q w hv h q
  cases hv with
  | @dic a kvs ks ds h1 h2 h3 =>
    refine ⟨a, kvs, rfl, w.ex _ _ h1, q.now w (.int _) ?_⟩
    have h' : P (.int (ks.length : Nat)) n := h
    rw [← h2, List.length_map] at h'
    exact h'
  | _ => exact h.elim
end
end DL

/-! a, b = [..], e by way of a tuple (a name that a comprehension reads, too) -/
namespace DL
open L2 PySem PySem.Spec PyProof.Rows
open Evl (Ex ex_l ex_t sz_of)
section
variable {K : PySem.W.Frag} {T : Tb} {S : SA} {E : XK} {te te2 : TE}
theorem rds_parG {i j : Nat} {F : DTM} {G : DT} (h1 : RdM K T S E te F) (h2 : DL.Rd K T S E te2 G) : RdS K T S E (tAsg (tTup (tCons te (tCons te2 tNil))) (gTup K 2 (gCons (gName i) (gCons (gName j) gNil)))) (xsParM i j F (xmD G)) := fun σ ρ Hb0 H0 n0 Hb H n DD XP D a sl h q x =>
  h1 σ ρ Hb H n _ XP _ a.wd sl.sl h (fun s v n1 Hb1 H1 s1 m1 p => h2 σ ρ Hb1 H1 n1 _ XP _ s1.wd (sl.step s1).sl p (fun d u n2 Hb2 H2 s2 hd p2 => by
    refine ⟨by show 2 ≤ sizeLine; decide, fun r hr => ⟨r, [v, u], rfl, SqT.of upd_same, rfl, v, [u], rfl, u, [], rfl, rfl, ?_⟩⟩
    have s3 : Stp K T S Hb2 H2 n2 Hb2 (upd H2 r (.tup [v, u])) n2 := .newO s2.wd hr (fun _ z => by cases z)
    have m1' := m1.step a.wd (s2.trans s3)
    have sl2 := ((sl.step s1).step s2).step s3
    refine q.nx _ _ n2 Hb2 _ (s1.ex.trans s2.ex) (((a.trans s1).trans s2).trans s3) (Sl0.setM (s := .d d) (((a.trans s1).trans s2).trans s3) (Sl0.setM a sl2 m1' (m1.apart sl.sl)) hd fun k ys r2 ek sk ev eo => ?_) p2
    cases eo) (((x.step a).step s1))) (x.step a)
end
end DL

/-! min(xs, default=d), xs a list of tuples of ints -/
namespace SCo
open L2 PySem PySem.Spec PyProof.Rows PySem.W
section
variable {X : Cx}
end
end SCo
namespace DL
open L2 PySem PySem.Spec PyProof.Rows SCo
open Evl (Ex ex_l ex_t sz_of)
section
variable {K : PySem.W.Frag} {T : Tb} {S : SA} {E : XK} {te td : TE} {FE FD : DT}
end
end DL

/-! sorted(d.values()), d a dict by tuples whose values are tuples of ints -/
namespace SCo
open L2 PySem PySem.Spec PyProof.Rows PySem.W
section
variable {prog : Program} {w : PySem.World} {A : Around} {E : Value → Shared → Prop} {s : Shared} {β : Type} {bs : List β} {enc : β → PyData} {R : Value → β → Prop}
end
section
variable {X : Cx}
end
end SCo
namespace DL
open L2 PySem PySem.Spec PyProof.Rows SCo
open Evl (Ex ex_l ex_t sz_of)
section
variable {K : PySem.W.Frag} {T : Tb} {S : SA} {E : XK} {te : TE} {FE : DT}
end
end DL

/-! dict comprehensions whose keys are tuples -/
namespace SCo
open L2 PySem PySem.Spec PyProof.Rows PpSet
section
variable {X : Cx} {pins : List (Addr × Obj)} {σ : L2.St} {H : Hp} {s : Shared} {E : Value → Shared → Prop}
end
section
variable {X : Cx}
end
end SCo

/-! a dict of one's own by tuples, whose values are lists of one's own -/
namespace DL
open L2 PySem PySem.Spec PyProof.Rows SCo
open Evl (Ex ex_l ex_t sz_of)
section
variable {K : PySem.W.Frag} {T : Tb} {S : SA} {E : XK} {Hb H Hb1 H1 H0 : Hp} {n n1 : Nat} {te tk tv : TE} {FE : DT}
/-! ### the dict stands -/
structure Lots (K : PySem.W.Frag) (S : SA) (H0 : Hp) (i : Nat) (p : Addr) (ks : List (List Key)) (ls : List Addr) (σ : L2.St) (Hb H : Hp) (xss : List (List D)) : Prop where
  sl : σ[i]? = some (some (.ref p))
  dp : ∃ kvs, H p = some (.dT kvs) ∧ kvs.map (·.1) = ks ∧ kvs.map (·.2) = ls.map V.ref
  hb : Hb p = none
  na : p ≠ S.a
  nl : p ≠ S.l
  kn : ks.Nodup
  nd : ls.Nodup
  ln : ls.length = xss.length
  lst : ∀ (j : Nat) (l : Addr) (xs : List D), ls[j]? = some l → xss[j]? = some xs → ∃ vs, H l = some (.lst vs) ∧ Hb l = none ∧ DnA K Hb vs xs
  ap : ∀ l ∈ ls, l ≠ S.a ∧ l ≠ S.l ∧ Fresh H0 l
theorem Lots.step {i : Nat} {p : Addr} {ks : List (List Key)} {ls : List Addr} {σ : L2.St} {xss : List (List D)} (a : Stp K T S Hb H n Hb1 H1 n1) (h : Lots K S H0 i p ks ls σ Hb H xss) : Lots K S H0 i p ks ls σ Hb1 H1 xss where
  sl := h.sl
  dp := let ⟨kvs, e, r⟩ := h.dp; ⟨kvs, (a.own p _ e h.hb h.na h.nl fun _ z => by cases z).1, r⟩
  hb := let ⟨kvs, e, r⟩ := h.dp; (a.own p _ e h.hb h.na h.nl fun _ z => by cases z).2
  na := h.na
  nl := h.nl
  kn := h.kn
  nd := h.nd
  ln := h.ln
  lst := fun j l xs e1 e2 => by
    obtain ⟨vs, g1, g2, g3⟩ := h.lst j l xs e1 e2
    obtain ⟨n1, n2, _⟩ := h.ap l (List.mem_of_getElem? e1)
    obtain ⟨f1, f2⟩ := a.own l _ g1 g2 n1 n2 fun _ z => by cases z
    exact ⟨vs, f1, f2, g3.up a.ex⟩
  ap := h.ap
theorem Lots.slot {i : Nat} {p : Addr} {ks : List (List Key)} {ls : List Addr} {σ σ' : L2.St} {xss : List (List D)} (h : Lots K S H0 i p ks ls σ Hb H xss) (e : σ'[i]? = σ[i]?) : Lots K S H0 i p ks ls σ' Hb H xss :=
  ⟨by rw [e]; exact h.sl, h.dp, h.hb, h.na, h.nl, h.kn, h.nd, h.ln, h.lst, h.ap⟩
def noOwnB (ρ : List SV) : Bool := ρ.all fun s => !isOwn s
structure DEnG where
  nx : List SV → List (List D) → Nat → Prop
  rt : DQ
abbrev DTSG := DEnG → List SV → List (List D) → Nat → DX → Prop
def NxG (K : PySem.W.Frag) (T : Tb) (S : SA) (Hb H : Hp) (n : Nat) (Hc : Hp) (i : Nat) (p : Addr) (ks : List (List Key)) (ls : List Addr) (P : List SV → List (List D) → Nat → Prop) (Q : L2.St → Hp → Prop) : Prop :=
  ∀ ρ xss σ n' Hb' H', Ex Hc Hb' → Stp K T S Hb H n Hb' H' n' → Sl0 K S H Hb' H' n' ρ σ → Lots K S H i p ks ls σ Hb' H' xss → noOwnB ρ = true → P ρ xss n' → Q σ H'
theorem NxG.up {i : Nat} {p : Addr} {ks : List (List Key)} {ls : List Addr} {P : List SV → List (List D) → Nat → Prop} {Q : L2.St → Hp → Prop} {Hc Hc' : Hp} (e : Ex Hc Hc') (h : NxG K T S Hb H n Hc i p ks ls P Q) : NxG K T S Hb H n Hc' i p ks ls P Q :=
  fun ρ xss σ n' Hb' H' e' => h ρ xss σ n' Hb' H' (e.trans e')
variable {i j : Nat} {ks : List (List Key)} {t u : TS} {F G : DTSG}
/-- what the dict holds at its j-th key -/
theorem Lots.at {p : Addr} {ls : List Addr} {σ : L2.St} {xss : List (List D)} (h : Lots K S H0 i p ks ls σ Hb H xss) {j : Nat} {k : List Key} (e : ks[j]? = some k) : ∃ kvs l, H p = some (.dT kvs) ∧ valV kvs k = some (.ref l) ∧ ls[j]? = some l ∧ j < xss.length := by
  obtain ⟨kvs, g1, g2, g3⟩ := h.dp
  have hj : j < kvs.length := by
    have := (List.getElem?_eq_some_iff.mp e).1
    rwa [← g2, List.length_map] at this
  have hjl : j < ls.length := by
    have := congrArg List.length g3
    rw [List.length_map, List.length_map] at this
    omega
  have e1 : kvs[j].1 = k := by
    rw [← g2, List.getElem?_map, List.getElem?_eq_getElem hj] at e
    exact Option.some.inj e
  have e2 : kvs[j].2 = V.ref ls[j] := by
    have z : (kvs.map (·.2))[j]? = (ls.map V.ref)[j]? := by rw [g3]
    rw [List.getElem?_map, List.getElem?_map, List.getElem?_eq_getElem hj, List.getElem?_eq_getElem hjl] at z
    exact Option.some.inj z
  refine ⟨kvs, ls[j], g1, ?_, List.getElem?_eq_getElem hjl, by rw [← h.ln]; exact hjl⟩
  unfold valV
  have kn : (kvs.map (·.1)).Nodup := by rw [g2]; exact h.kn
  cases f : kvs.find? fun kv => decide (kv.1 = k) with
  | none => exact absurd (List.find?_eq_none.mp f kvs[j] (List.getElem_mem hj)) (by simp [e1])
  | some kv =>
    have hm := List.mem_of_find?_eq_some f
    have hk : kv.1 = k := by simpa using List.find?_some f
    obtain ⟨j2, hj2, e3⟩ := List.mem_iff_getElem.mp hm
    have : j2 = j := by
      have a1 : (kvs.map (·.1))[j2]'(by rw [List.length_map]; exact hj2) = (kvs.map (·.1))[j]'(by rw [List.length_map]; exact hj) := by rw [List.getElem_map, List.getElem_map, e3, e1, hk]
      exact (List.getElem_inj kn).mp a1
    subst this
    rw [← e3]
    exact congrArg some e2
end
end DL

/-! == and != of instances whose class has an __eq__ of its own -/
namespace OE
open PySem PySem.Spec PyProof.Rows PySem.SeqAt
section
variable {M : Model} {prog : Program} {w : PySem.World} {A : Around} {E : Value → Shared → Prop} {s : Shared} {K : PySem.W.Frag} {x C f : Addr} {ox : Obj} {od : Option Obj} {b tb : Value}
theorem bound_ne {more : List Value} {R : Option Value → Shared → Prop} (KX : K.In s.heap) (J : PySem.W.InstAt s.heap x ox C od) (fn : PySem.W.findIn K (.ref C) "__ne__" = some (some (.builtin "object.__ne__")))
    (go : wpAny M A (call (.builtin "object.__ne__") (.ref x :: more)) (fun v => R (some v)) E s) : wpAny M A (callSpecialIfBound? (.ref x) "__ne__" more) R E s := by
  have last : wpAny M A (do let v ← call (.builtin "object.__ne__") ([.ref x] ++ more); pure (some v)) R E s := wpAny_bind (wpAny_mono go (fun _ _ h1 => wpAny_pure h1) fun _ _ h1 => h1)
  simp only [callSpecialIfBound?, bindSpecialIfBound?]
  refine wpAny_holding (wpAny_bind (wpAny_bind (wpAny_bind (J.type.here ((PySem.W.looks_findIn KX fn).here (wpAny_bind (wpAny_askSetting (wpAny_ite ?_))))))))
  split
  · exact wpAny_bind (wpAny_of_eq (F.cmp_object.ne.bind _) (wpAny_pure last))
  · exact wpAny_tryCatch (wpAny_bind (wpAny_of_eq (F.cmp_object.ne.bind _) (wpAny_pure last)))
theorem entry_ne {R : Fin → Shared → Prop} (hu : A.units < cLine) (KX : K.In s.heap) (J : PySem.W.InstAt s.heap x ox C od) (fe : PySem.W.findIn K (.ref C) "__eq__" = some (some (.ref f))) (hf : PySem.W.isFn K (.ref f) = true)
    (go : wpAny (model prog w) A (call (.ref f) [.ref x, b]) (fun v s' => ∃ r, v = .bool r ∧ R (.done (.ret (.bool (!r)))) s') E s) : wpAny (model prog w) A (Builtin.«object.__ne__» ⟨[.ref x, b], []⟩) R E s := by
  unfold Builtin.«object.__ne__»
  repeat (first
    | with_reducible refine wpAny_cRoomFor hu ?_
    | (refine wpAny_bind (m := callSpecialIfBound? (.ref x) (Str.ofString "__eq__") [b]) (PySem.W.ifBound_K KX J fe hf (wpAny_mono go (fun v s' h1 => by
        obtain ⟨r, rfl, h2⟩ := h1
        repeat (first | exact h2 | exact wpAny_pure h2 | exact wpAny_truthy_bool h2 | (refine wpAny_bind (m := truthy (.bool _)) (wpAny_truthy_bool ?_)) | wp_step)) fun _ _ e => e)))
    | wp_step)
theorem rc_ne {R : Value → Shared → Prop} (hu : A.units + 1 < cLine) (KX : K.In s.heap) (J : PySem.W.InstAt s.heap x ox C od) (tyb : PySem.W.Looks (model prog w) s.heap (typeOf b) tb) (nf : PySem.W.notFirst K C tb = true) (hm : PySem.W.mroIn K C (.type "object") = some true)
    (fe : PySem.W.findIn K (.ref C) "__eq__" = some (some (.ref f))) (fn : PySem.W.findIn K (.ref C) "__ne__" = some (some (.builtin "object.__ne__"))) (hf : PySem.W.isFn K (.ref f) = true)
    (go : wpAny (model prog w) A.in1 (call (.ref f) [.ref x, b]) (fun v s' => ∃ r, v = .bool r ∧ R (.bool (!r)) s') E s) : wpAny (model prog w) A (richCompare .NotEq (.ref x) b) R E s := by
  have run : wpAny (model prog w) A (call (.builtin "object.__ne__") [.ref x, b]) (fun v s' => ∃ r : Bool, v = .bool r ∧ R (.bool r) s') E s :=
    wpAny_call (codeAny_call_builtin F.cmp_object.ne.plain F.cmpEntry_ne (PySem.W.check_slot F.cmpKind_ne F.cmpSplit_ne (J.type.andThen (PySem.W.looks_mroIn KX hm)) (F.cmpArgs_ne _ _) (entry_ne (A := A.in1) hu KX J fe hf (wpAny_mono go (fun v s' h1 => by
      obtain ⟨r, rfl, h2⟩ := h1
      exact ⟨r, rfl, !r, rfl, h2⟩) fun _ _ e => e))))
  have one : wpAny (model prog w) A (tryCompare (.ref x) "__ne__" b) (fun r s' => ∃ v, r = some v ∧ R v s') E s := by
    unfold tryCompare
    refine wpAny_bind (bound_ne KX J fn (wpAny_mono run (fun v s' h1 => ?_) fun _ _ e => e))
    obtain ⟨r, rfl, h2⟩ := h1
    exact wpAny_pure ⟨_, rfl, h2⟩
  unfold richCompare
  simp only [oneThing_ref]
  refine wpAny_holding (wpAny_bind (wpAny_cRoomFor (Nat.lt_of_succ_lt hu) ?_))
  rw [cmpInfo_NotEq]
  refine wpAny_bind (J.type.here (wpAny_bind (tyb.here ?_)))
  have sure : ∀ {G : Option Value → Sem Value}, (∀ v, G (some v) = pure v) → wpAny (model prog w) A (tryCompare (.ref x) "__ne__" b >>= G) R E s := fun {G} hG =>
    wpAny_bind (wpAny_mono one (fun o t ⟨v, ev, h2⟩ => by rw [ev, hG]; exact wpAny_pure h2) fun _ _ h3 => h3)
  split
  · rename_i ne
    have sub : PySem.W.subIn K tb (.ref C) = some false := by
      cases Bool.or_eq_true_iff.mp nf with
      | inl h1 => exact absurd ne (by rw [beq_iff_eq.mp h1]; simp)
      | inr h1 => exact beq_iff_eq.mp h1
    exact wpAny_bind ((PySem.W.looks_subIn KX sub).here (sure fun _ => rfl))
  · exact wpAny_bind (wpAny_pure (sure fun _ => rfl))
end
end OE
namespace SCo
open L2 PySem PySem.Spec PyProof.Rows
/-- what the type of the other one must be -/
def TyOth (K : PySem.W.Frag) (C : Addr) (H : Hp) (y : V) : Prop := ∃ b dy gs, y = .ref b ∧ H b = some (.ins C dy gs)
def rCmpO (K : PySem.W.Frag) (C : Addr) (sp : Sp) (g : Bool → Bool) : R2 := fun x y H Q => ∃ a dx fs, x = .ref a ∧ H a = some (.ins C dx fs) ∧ TyOth K C H y ∧ sp [x, y] H (fun v H' => ∃ r, v = .bl r ∧ Q (.bl (g r)) H') (fun _ _ _ => False)
/-- a class with an __eq__ of its own -/
def HasEq (P : Program) (w : PySem.World) (K : PySem.W.Frag) (mg : Str → Option Value) (base : Heap) (k : Nat) (C : Addr) (sp : Sp) : Prop :=
  ∃ f fd, FnOk P w K mg base CX0 k f fd ["self", "other"] sp ∧ Binds K fd ["self", "other"] [] ∧ PySem.W.findIn K (.ref C) "__eq__" = some (some (.ref f)) ∧ PySem.W.findIn K (.ref C) "__ne__" = some (some (.builtin "object.__ne__")) ∧ PySem.W.isFn K (.ref f) = true ∧ PySem.W.mroIn K C (.type "object") = some true
section
variable {X : Cx} {k : Nat} {C : Addr} {sp : Sp}
theorem eq_run (h : HasEq X.prog X.w X.K X.mg X.base k C sp) {A : Around} (hr : Room k A) (hfr : A.frames = X.A.frames) {pins : List (Addr × Obj)} {s : Shared} {σ : L2.St} {H : Hp} {x y : V} {v u : Value} {Q : VK} (I : Inv X pins σ H s) (rx : RelV x v) (ry : RelV y u)
    {f : Addr} {fd : FuncData} (FO : FnOk X.prog X.w X.K X.mg X.base CX0 k f fd ["self", "other"] sp) (hb : Binds X.K fd ["self", "other"] []) {g : Bool → Bool} (hsp : sp [x, y] H (fun z H' => ∃ r, z = .bl r ∧ Q (.bl (g r)) H') (fun _ _ _ => False)) :
    wpAny (model X.prog X.w) A (call (.ref f) [v, u]) (fun z s' => ∃ r, z = .bool r ∧ ∃ H', Inv X pins σ H' s' ∧ Q (.bl (g r)) H') X.xe s := by
  have e0 : Env0 X.prog X.w X.K X.mg X.base A X.stack s H := by
    have e := I.env0
    exact ⟨by rw [hfr]; exact e.frames, e.mod, e.bs, e.bsz, e.funs, e.frf, e.hok, e.bare⟩
  have bd := hb s [v, u] I.kIn rfl
  refine wpAny_call (codeAny_mono (FO.run A X.stack s H ⟨[v, u], []⟩ [v, u] [x, y] _ _ hr e0 (by simpa using bd) (.cons rx (.cons ry .nil)) hsp) fun r s' hq => ?_)
  cases r with
  | error e => exact (show False from hq).elim
  | ok fl =>
    cases fl with
    | ret z =>
      obtain ⟨z', H', I', rz, b, rfl, q⟩ := I.after hq
      cases rz
      exact ⟨b, rfl, H', I', q⟩
    | next => exact (show False from hq).elim
    | brk => exact (show False from hq).elim
    | cont => exact (show False from hq).elim
theorem op_eqOwn (h : HasEq X.prog X.w X.K X.mg X.base k C sp) (hr : Room (k + 1) X.A) : OpR X (compareOp .Eq) (rCmpO X.K C sp id) := by
  intro pins s σ H x y v u Q I rx ry hq
  obtain ⟨a, dx, fs, rfl, ha, ⟨b, dy, gs, rfl, hb'⟩, hsp⟩ := hq
  cases rx
  cases ry
  obtain ⟨f, fd, FO, hb, fe, fn, hf, hm⟩ := id h
  obtain ⟨mA, J, _⟩ := ins_get I.hok ha
  obtain ⟨mB, J', _⟩ := ins_get I.hok hb'
  obtain ⟨od, J, _⟩ := J.look
  obtain ⟨od', J', _⟩ := J'.look
  obtain ⟨m, hF⟩ := I.fr
  show wpAny (model X.prog X.w) X.A (richCompare .Eq (.ref a) (.ref b)) (EP X pins σ Q) X.xe s
  refine PySem.W.cmp_K (op := .Eq) (tb := .ref C) hr.units0 hF I.ok.mod.kin J J'.type (by simp [PySem.W.notFirst]) fe hf ?_
  refine wpAny_mono (eq_run (g := id) h (hr.mono (by omega)) rfl I (x := .ref a) (y := .ref b) rfl rfl FO hb hsp) (fun z s' hz => ?_) fun _ _ e => e
  obtain ⟨r, rfl, H', I', q⟩ := hz
  exact ⟨.bl r, H', I', rfl, q⟩
theorem op_neOwn (h : HasEq X.prog X.w X.K X.mg X.base k C sp) (hr : Room (k + 1) X.A) : OpR X (compareOp .NotEq) (rCmpO X.K C sp not) := by
  intro pins s σ H x y v u Q I rx ry hq
  obtain ⟨a, dx, fs, rfl, ha, ⟨b, dy, gs, rfl, hb'⟩, hsp⟩ := hq
  cases rx
  cases ry
  obtain ⟨f, fd, FO, hb, fe, fn, hf, hm⟩ := id h
  obtain ⟨mA, J, _⟩ := ins_get I.hok ha
  obtain ⟨mB, J', _⟩ := ins_get I.hok hb'
  obtain ⟨od, J, _⟩ := J.look
  obtain ⟨od', J', _⟩ := J'.look
  show wpAny (model X.prog X.w) X.A (richCompare .NotEq (.ref a) (.ref b)) (EP X pins σ Q) X.xe s
  refine OE.rc_ne (tb := .ref C) (by have := hr.un; omega) I.kIn J J'.type (by simp [PySem.W.notFirst]) hm fe fn hf ?_
  refine wpAny_mono (eq_run (A := X.A.in1) (g := not) h hr.in1 rfl I (x := .ref a) (y := .ref b) rfl rfl FO hb hsp) (fun z s' hz => ?_) fun _ _ e => e
  obtain ⟨r, rfl, H', I', q⟩ := hz
  exact ⟨r, rfl, .bl (!r), H', I', rfl, q⟩
end
end SCo
namespace DL
open L2 PySem PySem.Spec PyProof.Rows SCo
open Evl (Ex ex_l ex_t sz_of)
section
variable {K : PySem.W.Frag} {T : Tb} {S : SA} {E : XK} {ta tb : TE} {F G : DT}
def xCmpO (C : Addr) (DS : DSp0) (g : Bool → Bool) (F G : DT) : DT := fun ρ n P XP => F ρ n (fun a n1 => G ρ n1 (fun b n2 => (∃ ns ds, a = .ins C ns ds) ∧ (∃ ns ds, b = .ins C ns ds) ∧ DS [.d a, .d b] n2 (fun d n3 => ∃ r, d = .bl r ∧ P (.bl (g r)) n3)) XP) XP
theorem rd_cmpO {C : Addr} {DS : DSp0} {g : Bool → Bool} (h1 : DL.Rd K T S E ta F) (h2 : DL.Rd K T S E tb G) : DL.Rd K T S E (tOp (rCmpO K C (sp0 K T DS) g) ta tb) (xCmpO C DS g F G) := fun σ ρ Hb H n P XP Q w sl h q x => by
  refine h1 σ ρ Hb H n _ XP _ w sl h (fun a v n1 Hb1 H1 s hd p => ?_) x
  refine h2 σ ρ Hb1 H1 n1 _ XP _ s.wd (sl.step s) p (fun b u n2 Hb2 H2 s2 he p2 => ?_) (x.step s)
  obtain ⟨⟨na, da, rfl⟩, ⟨nb, db, rfl⟩, p3⟩ := p2
  have hd2 := hd.up s2.ex
  cases id hd2 with
  | @ins a _ dx fs _ _ hc e1 e2 e3 =>
    cases id he with
    | @ins b _ dy gs _ _ hc' f1 f2 f3 =>
      refine ⟨a, dx, fs, rfl, s2.wd.ex _ _ e1, ⟨b, dy, gs, rfl, s2.wd.ex _ _ f1⟩, S, Hb2, n2, _, _, xF, s2.wd, .cons (s := .d _) ⟨_, rfl, hd2⟩ (.cons (s := .d _) ⟨_, rfl, he⟩ .nil), ⟨rfl, p3⟩, fun d z n3 Hb3 H3 s3 hz pz => ?_, .none⟩
      obtain ⟨r, rfl, pz⟩ := pz
      cases hz
      exact ⟨r, rfl, q _ _ n3 Hb3 H3 ((s.trans s2).trans s3) (.bl _) pz⟩
end
def eqOB (K : PySem.W.Frag) (C f : Addr) : Bool := He.eqO (PySem.W.findIn K (.ref C) "__eq__") (some (some (.ref f))) && (He.eqO (PySem.W.findIn K (.ref C) "__ne__") (some (some (.builtin "object.__ne__"))) && (PySem.W.isFn K (.ref f) && eqB (PySem.W.mroIn K C (.type "object")) (some true)))
structure EqO (K : PySem.W.Frag) (C f : Addr) : Prop where
  e : PySem.W.findIn K (.ref C) "__eq__" = some (some (.ref f))
  n : PySem.W.findIn K (.ref C) "__ne__" = some (some (.builtin "object.__ne__"))
  f : PySem.W.isFn K (.ref f) = true
  m : PySem.W.mroIn K C (.type "object") = some true
theorem eqOB_ok {K : PySem.W.Frag} {C f : Addr} (h : eqOB K C f = true) : EqO K C f := by
  obtain ⟨h1, h⟩ := b2 h
  obtain ⟨h2, h⟩ := b2 h
  obtain ⟨h3, h4⟩ := b2 h
  exact ⟨He.eqO_ok h1, He.eqO_ok h2, h3, eqB_ok h4⟩
/-- an __eq__ as it stands -/
def EqAt (K : PySem.W.Frag) (qual : Str) (C : Addr) (st : Stmt) : Prop := ∃ f fd, Fun K "__eq__" qual st f fd ∧ EqO K C f ∧ Binds K fd ["self", "other"] []
end DL

/-! _law_told: what work() made and what was caught, as two values -/
namespace DL
open L2 PySem PySem.Spec PyProof.Rows
open Evl (Ex ex_l ex_t sz_of)
/-- the def that got the lambda, as it runs -/
abbrev hostX (X : Cx) (M : List Str) (nm : Str) (sc : Scope) (g : Addr) (cd : Value) (s : Shared) (H : Hp) : Cx := cxOf C8.CX0 X.prog X.w X.K X.mg X.base M nm sc g cd X.A X.stack s H C8.E0
/-- what a reading at τ, J says of a lambda at f: its errors are wished at τ itself -/
def tAct (W : WX) (f c : Addr) (q : Str) (E : XK) (t : Hp → VK → Prop) : TE := fun τ J Q => (∀ cls d J', E cls d J' → W cls d τ J') ∧ τ[0]? = some (some (.ref f)) ∧ J c = some (LamX.CodeO c q) ∧ t J Q
def KnownAs (X : Cx) (q : Str) (M : List Str) (nm : Str) (sc : Scope) (g : Addr) (cd : Value) (x : Str) (f c : Addr) (s : Shared) (H : Hp) (t : XK → Hp → VK → Prop) : Prop :=
  ∀ (W : WX) (pn : List (Addr × Obj)) (xe : Value → Shared → Prop) (E : XK) (p1 p2 : Pos), Takes ((hostX X M nm sc g cd s H).tr pn xe) W →
    PE ((hostX X M nm sc g cd s H).tr pn xe) (.Call (.Name x p1) [] [] p2) (tAct W f c q E (t E))
section
variable {X : Cx} {pins : List (Addr × Obj)} {σ : L2.St} {H : Hp} {s : Shared}
theorem act_at {M : List Str} {nm : Str} {sc : Scope} {g f c : Addr} {cd pm ctv : Value} {params : Arguments} {body : Expr} {scope : Scope} {k : Nat} {x : Str} {t : XK → TE}
    (I : Inv X pins σ H s) (L : LamX.LamS X.env.scope scope) (f1 : s.heap.get? f = some (PySem.W.kla_obj "<lambda>" (X.env.qual ++ "<lambda>") params body scope (cloFrom X.env.cells scope.names []) pm c ctv)) (f2 : H f = none) (f3 : f ∉ frs X.stack)
    (bd : bindArgs (PySem.W.kla_fn "<lambda>" (X.env.qual ++ "<lambda>") params body scope (cloFrom X.env.cells scope.names []) pm (.ref c) ctv) ⟨[], []⟩ = pure [])
    (room : Room (k + 1) (X.A.deeper (envOfC nm sc s.heap.objs.size g cd)))
    (reads : ∀ (A : Around) (outer : List Env) (s : Shared) (H : Hp) (E : XK), Room k (A.deeper (LamX.lamEnv X scope s.heap.objs.size f c)) → PE (LamX.lamCx X A outer s H E scope f c) body (t E))
    (hM : M[0]? = some x) (vis : Vis sc x) (x1 : (x == ("__debug__" : Str)) = false) (x2 : (x == ("__classdict__" : Str)) = false) :
    KnownAs X (X.env.qual ++ "<lambda>") M nm sc g cd x f c s H (fun E J Q => t E σ J Q) := by
  intro W pn xe E p1 p2 tk
  constructor
  rintro pins2 s2 τ J Q I2 ⟨wish, at0, code, main⟩
  have var := (pe_var (X := (hostX X M nm sc g cd s H).tr pn xe) (pos := p1) (i := 0) hM vis x1 x2).run pins2 s2 τ J (fun v J1 => v = .ref f ∧ J1 = J) I2 ⟨.ref f, at0, rfl, rfl⟩
  apply wpAny_Call_Name_kw
  apply thn var
  rintro u s3 ⟨v, J1, I3, rel, rfl, rfl⟩
  have rel : u = Value.ref f := rel
  subst rel
  have obj := I3.base.keep f _ f1 f2 f3 fun z => nomatch (show f ∈ ([] : List Addr) from z)
  have since : Un (frs X.stack) [] H J1 s.heap s3.heap := I3.base
  have seen := (I3.hok c _ code).1
  obtain ⟨oc, vs, tok, o1, o2, o3⟩ := seen
  apply PySem.W.callWith_F0 ⟨_, _, _, _, obj⟩
  apply wpAny_call
  have ran : codeAny (model X.prog X.w) (X.A.deeper (envOfC nm sc s.heap.objs.size g cd)) (.call (.ref f) ⟨[], []⟩) (CR (L2.CX X.prog X.w) (envOfC nm sc s.heap.objs.size g cd :: X.stack) X.prog X.w J1 s3 Q E) s3 := by
    apply PySem.W.kla_callFunE room.depth obj rfl L.co L.gen rfl ⟨c, oc, vs, tok, rfl, o1, o2, o3⟩
    rw [bd]
    apply wpAny_pure
    apply wpAny_newFunctionEnv (fun y hy => (L.own y hy).2) (fun y hy => absurd hy (by simp)) _ L.kind
    intro h4 ns sub
    refine ⟨I3.nolimit.fresh _ sub, ?_⟩
    have kept : ∀ b o, s3.heap.get? b = some o → h4.get? b = some o := fun b o q => sub.extBut b o (Nat.ne_of_lt (Heap.lt_size q)) (Heap.get?_push_of_some _ q)
    have I4 := LamX.lam_start2 (E := E) (f := f) (c' := c) (tk := s3.toks + ([] : List (Str × Value)).length) I L I3.env0 room.hd since ns kept
    apply PySem.W.kla_codeExpr
    refine wpAny_mono ((reads _ _ s3 J1 E (room.deeper _)).run [] _ _ J1 Q I4 main) ?_ fun _ _ z => z
    rintro v s5 ⟨w, J5, I5, r5, q5⟩
    exact ⟨w, J5, I5.os, I5.bare, I5.base, I5.hok, r5, q5⟩
  refine codeAny_mono ran fun r s6 got => ?_
  match r, got with
  | .error e, got => exact tk e s6 (XE.of_call I3 wish got)
  | .ok (.ret _), got => exact I3.after got
  | .ok .next, got => exact got.elim
  | .ok .brk, got => exact got.elim
  | .ok .cont, got => exact got.elim
end
/-- what the def makes of the lambda that it got -/
def MakesOf (X : Cx) (M : List Str) (nm : Str) (sc : Scope) (g : Addr) (cd : Value) (bg : List Stmt) (x q : Str) (TT : (XK → Hp → VK → Prop) → Hp → VK → Prop) : Prop :=
  ∀ (f c : Addr) (s : Shared) (H : Hp) (Q : VK) (t : XK → Hp → VK → Prop), KnownAs X q M nm sc g cd x f c s H t → H c = some (LamX.CodeO c q) → TT t H Q →
    ∃ r, PSs (hostX X M nm sc g cd s H).nox bg r ∧ r { nx := fun _ J => Q .non J, rt := Q } (L2.start M [.ref f]) H
section
variable {X : Cx} {T : Tb}
/-- x(lambda: body) for such a def -/
theorem lam_call2 {nm x : Str} {M : List Str} {st : Stmt} {c : Addr} {k : Nat} {params : Arguments} {body : Expr} {scope : Scope} {t : XK → TE} {TT : (XK → Hp → VK → Prop) → Hp → VK → Prop} {p lpos pos : Pos} (D : DefAt X.K X.mg nm st [x]) (Sg : FnScope M [x] (defScope st)) (hM : M[0]? = some x)
    (hG : ∀ g cdg, MakesOf X M nm (defScope st) g cdg (defBody st) x (X.env.qual ++ "<lambda>") TT)
    (MA : MakesAt X.base X.mg T (X.env.qual ++ "<lambda>") c) (hcode : X.env.code = .ref c) (hr : Room (k + 2) X.A) (L : LamX.LamS X.env.scope scope) (hg : Gl X nm) (hdef : defaultsOf params X.env = ([], []))
    (hbind : ∀ (q : Str) (cl : List (Str × Addr)) (pm cv ctv : Value), bindArgs (PySem.W.kla_fn "<lambda>" q params body scope cl pm cv ctv) ⟨[], []⟩ = pure [])
    (hbody : ∀ (A : Around) (outer : List Env) (s : Shared) (H : Hp) (E : XK) (f c' : Addr), Room k (A.deeper (LamX.lamEnv X scope s.heap.objs.size f c')) → PE (LamX.lamCx X A outer s H E scope f c') body (t E))
    (n1 : (nm == ("__debug__" : Str)) = false := by decide) (x1 : (x == ("__debug__" : Str)) = false := by decide) (x2 : (x == ("__classdict__" : Str)) = false := by decide) :
    PE X (.Call (.Name nm p) [.Lambda params body scope lpos] [] pos) (LamX.tLam T TT t) := by
  obtain ⟨g, fd, F, hm, hk, hb⟩ := D
  obtain ⟨oc, od, kV, doc, pm, an, cdv, ct, osl, rfl, lk, hcd⟩ := F.ex
  obtain ⟨P, TB, hmT, hu⟩ := MA.ex
  constructor
  rintro pins s σ H Q I ⟨tabs, main⟩
  apply wpAny_Call_Name_kw
  apply ld_glob I hg hm _ n1
  apply PySem.W.callWith_K (h₀ := X.base) I.ok.mod.kin hk _ (by rfl) (by rfl)
  show wpAny _ _ (spliced ((false, eval (.Lambda params body scope lpos) X.env) :: backTo pos (starEach [] X.env))) _ _ s
  apply Calls.spliced_cons
  apply LamX.lam_make2 I TB hcode hmT hu tabs hdef (L.has I.ok)
  intro f c' pm' ctv H1 s1 I1 eN T1 f1 f2 f3 code
  refine Calls.spliced_nil ⟨I1.kIn, wpAny_call ?_⟩
  have ran : codeAny (model X.prog X.w) X.A (.call (.ref g) ⟨[.ref f], []⟩) (CR C8.CX0 X.stack X.prog X.w H1 s1 Q C8.E0) s1 := by
    apply LamX.run_ofS (N := M) (ps := [x]) (us := [.ref f]) (vs := [.ref f]) lk hcd Sg hr I1.env0 (hb s1 [.ref f] I1.kIn rfl) (.cons rfl .nil) rfl
    intro hr'
    have vis : Vis (defScope st) x := (Sg.par x (by simp)).elim (fun q => .inl q) fun q => .inr (.inl q)
    obtain ⟨r, hr1, hr2⟩ := hG g cdv f c' s1 H1 Q (fun E J Q' => t E σ J Q') (act_at I1 L f1 f2 f3 (hbind _ _ _ _ _) hr' (fun A outer s H E room => hbody A outer s H E f c' room) hM vis x1 x2) code (main H1 eN T1)
    exact ⟨r, hr1.nox, hr2⟩
  refine codeAny_mono ran fun r s2 got => ?_
  match r, got with
  | .error e, got => exact (show False from got).elim
  | .ok (.ret _), got => exact I1.after got
  | .ok .next, got => exact got.elim
  | .ok .brk, got => exact got.elim
  | .ok .cont, got => exact got.elim
end
/-- found, caught = None, None; try: found = work() except S as error: caught = error; return found, caught -/
def TTd (K : PySem.W.Frag) (CS : Addr) : (XK → Hp → VK → Prop) → Hp → VK → Prop := fun t H Q => ∀ p, H p = none →
  t (fun cls od J => ∃ C, cls = .ref C ∧ PySem.W.exmOne K cls (.ref CS) = some true ∧ ∀ a, J a = none → ∀ b, upd J a (ExT C od a) b = none → Q (.ref b) (upd (upd J a (ExT C od a)) b (.tup [.non, .ref a])))
    (upd H p (.tup [.non, .non])) (fun v J => ∀ b, J b = none → Q (.ref b) (upd J b (.tup [v, .non])))
def sFound : Str := "found"
section
variable {X : Cx}
theorem told_makes {x e q : Str} {sg : Scope} {g CS : Addr} {cdg : Value} {j0 j1 j2 j3 j4 : Nat} {p0 p1 p2 p3 p4 p5 p6 p7 p8 p9 q0 q1 q2 q3 q4 q5 q6 q7 q8 q9 r0 : Pos} (hge : sg.names.lookup e = some .globalImplicit) (hme : X.mg e = some (.ref CS)) (hde : (e == ("__debug__" : Str)) = false)
    (h1 : sg.names.lookup sFound = some .local) (h2 : sg.names.lookup sCaught = some .local) (h3 : sg.names.lookup sError = some .local)
    (hw : ∀ s H, swappedStores [.Tuple [.Name "found" p0, .Name "caught" p1] j0 p2] (.Tuple [.Constant .none j1 p3, .Constant .none j2 p4] j3 p5) (hostX X ["work", "found", "caught", "error"] x sg g cdg s H).nox.env = pure none) :
    MakesOf X ["work", "found", "caught", "error"] x sg g cdg [.Assign [.Tuple [.Name "found" p0, .Name "caught" p1] j0 p2] (.Tuple [.Constant .none j1 p3, .Constant .none j2 p4] j3 p5) p6,
      .Try [.Assign [.Name "found" p7] (.Call (.Name "work" p8) [] [] p9) q0] [.ExceptHandler (some (.Name e q1)) (some "error") [.Assign [.Name "caught" q2] (.Name "error" q3) q4] q5] [] [] q6, .Return (some (.Tuple [.Name "found" q7, .Name "caught" q8] j4 q9)) r0] "work" q (TTd X.K CS) := by
  intro f c s H Q t act code main
  have nd : (["work", "found", "caught", "error"] : List Str).Nodup := by decide +kernel
  have gl : Gl (hostX X ["work", "found", "caught", "error"] x sg g cdg s H).nox e := hge
  have first : PS (hostX X ["work", "found", "caught", "error"] x sg g cdg s H).nox (.Assign [.Tuple [.Name "found" p0, .Name "caught" p1] j0 p2] (.Tuple [.Constant .none j1 p3, .Constant .none j2 p4] j3 p5) p6) _ :=
    ps_asg (pe_tup (pa_cons pe_non (pa_cons pe_non pa_nil))) (pg_tup rfl (pgs_cons (pg_name (i := 1) nd rfl (.inl h1) (.inr h1)) (pgs_cons (pg_name (i := 2) nd rfl (.inl h2) (.inr h2)) pgs_nil))) (hw := hw s H)
  have attempt : PS (hostX X ["work", "found", "caught", "error"] x sg g cdg s H).nox (.Try [.Assign [.Name "found" p7] (.Call (.Name "work" p8) [] [] p9) q0] [.ExceptHandler (some (.Name e q1)) (some "error") [.Assign [.Name "caught" q2] (.Name "error" q3) q4] q5] [] [] q6) _ :=
    ps_try_keep (i := 3) (j := 2) (c := .ref CS) (tb := fun W D τ J => ∃ E : XK, (∀ cls d J', E cls d J' → W cls d τ J') ∧ τ[0]? = some (some (.ref f)) ∧ J c = some (LamX.CodeO c q) ∧ t E J (fun v J' => D.nx (τ.set 1 (some v)) J'))
      rfl rfl nd rfl h3 rfl h2 ⟨gl, hde, .inl hme⟩ rfl (by decide) (by decide) fun W pn xe tk _ =>
        ⟨fun pins s' τ J D I ⟨E, g1, g2, g3, g4⟩ => (pss_one (ps_set (X := ((hostX X ["work", "found", "caught", "error"] x sg g cdg s H).nox.tr pn xe)) (i := 1) nd rfl (.inl h1) (act W pn xe E _ _ tk) (hf := .inr h1))).run pins s' τ J D I ⟨g1, g2, g3, g4⟩⟩
  have last : PS (hostX X ["work", "found", "caught", "error"] x sg g cdg s H).nox (.Return (some (.Tuple [.Name "found" q7, .Name "caught" q8] j4 q9)) r0) _ :=
    ps_ret (pe_tup (pa_cons (pe_var (i := 1) rfl (.inl h1)) (pa_cons (pe_var (i := 2) rfl (.inl h2)) pa_nil)))
  refine ⟨_, pss_cons first (pss_cons attempt (pss_one last)), by show (2 : Nat) ≤ sizeLine; decide, fun p np => ⟨p, [.non, .non], rfl, .inl (.inl upd_same), rfl, ?_⟩⟩
  refine ⟨_, _, rfl, _, _, rfl, rfl, ?_⟩
  refine ⟨fun cls od J => ∃ C, cls = .ref C ∧ PySem.W.exmOne X.K cls (.ref CS) = some true ∧ ∀ a, J a = none → ∀ b, upd J a (ExT C od a) b = none → Q (.ref b) (upd (upd J a (ExT C od a)) b (.tup [.non, .ref a])), fun cls od J hx => ?_, rfl, ?_, ?_⟩
  rotate_left
  · exact (upd_ne (ne_of_none code np)).trans code
  · have same : (fun (v : V) (J : Hp) => ∀ b, J b = none → Q (.ref b) (upd J b (.tup [v, .non]))) = fun v J => ∃ v1, (some (some v) : Option (Option V)) = some (some v1) ∧ ∃ v2, (some (some V.non) : Option (Option V)) = some (some v2) ∧ (2 : Nat) ≤ sizeLine ∧ ∀ b, J b = none → Q (.ref b) (upd J b (.tup [v1, v2])) := by
      funext v J
      apply propext
      constructor
      · exact fun h => ⟨v, rfl, .non, rfl, by decide, h⟩
      · rintro ⟨v1, e1, v2, e2, _, h⟩
        cases e1
        cases e2
        exact h
    have body := main p np
    rw [same] at body
    exact body
  · obtain ⟨C, rfl, em, hq⟩ := hx
    exact ⟨true, em, fun _ a C2 e2 na hl => ⟨C, rfl, .non, rfl, .ref a, rfl, by show (2 : Nat) ≤ sizeLine; decide, fun b nb => hq a na b nb⟩, (fun z => nomatch z), C, rfl⟩

end
section
variable {K : PySem.W.Frag} {T : Tb} {S : SA} {E : XK}
def xTold (K : PySem.W.Frag) (CS : Addr) (F : DT) : DT := fun ρ n P _ => F ρ n (fun d n1 => P (.tup [d, .non]) n1) (fun C ns ds n1 => ErrC K CS C ∧ P (.tup [.non, .exc C ns ds]) n1)
theorem rd_told {CS : Addr} {te : XK → TE} {F : DT} (h : ∀ E, DL.Rd K T S E (te E) F) : DL.Rd K T S E (LamX.tLam T (TTd K CS) te) (xTold K CS F) := fun σ ρ Hb H n P XP Q w sl hf q x => by
  refine ⟨w.tabs, fun H1 eN T1 p np => ?_⟩
  have s0 : Stp K T S Hb H n Hb H1 n := .lam w eN T1
  have s := s0.trans (Stp.new (o := .tup [.non, .non]) s0.wd np)
  refine h _ σ ρ _ _ n _ _ _ s.wd (sl.step s) hf (fun d v n2 Hb2 H2 s2 hv pp b nb => ?_) fun C ns ds n2 od Hb2 H2 s2 hx pp => ?_
  · exact (q.step (s.trans s2)).new s2.wd nb (.tup (SqT.of upd_same) (.cons (hv.up (Ex.new (free_of s2.wd.ex nb))) (.cons .non .nil))) pp
  obtain ⟨ec, pp⟩ := pp
  refine ⟨C, rfl, ec.em, fun a na b nb => ?_⟩
  have s3 := Stp.new (K := K) (S := S) (n := n2) (o := ExT C od a) s2.wd na
  refine ((q.step (s.trans s2)).step s3).new s3.wd nb (.tup (SqT.of upd_same) (.cons .non (.cons ?_ .nil))) pp
  obtain ⟨fs, h0, h1, h2⟩ := hx
  have eb := Ex.new (o := ExT C od a) (free_of s2.wd.ex na)
  have hn : Dn K (upd Hb2 a (ExT C od a)) (.ref a) (.exc C ns ds) := by
    refine .exc ec.ec ec.nt upd_same ?_ h1 (h2.up eb)
    rcases h0 with h0 | ⟨dd, h0, hne, h3⟩
    · exact .inl h0
    · exact .inr ⟨dd, h0, hne, eb _ _ h3⟩
  exact hn.up (Ex.new (free_of s3.wd.ex nb))
end
section
variable {K : PySem.W.Frag}
end
end DL

/-! d[t], d a dict by tuples of ints that is data -/
namespace DL
open L2 PySem PySem.Spec PyProof.Rows
open Evl (Ex ex_l ex_t sz_of)
section
variable {K : PySem.W.Frag} {T : Tb} {S : SA} {E : XK} {H : Hp}
end
end DL

/-! xs.pop(e) as a statement, xs a list of one's own -/
namespace DL
open L2 PySem PySem.Spec PyProof.Rows
open Evl (Ex ex_l ex_t sz_of)
section
variable {K : PySem.W.Frag} {T : Tb} {S : SA} {E : XK} {te : TE} {FE : DT}
end
end DL

/-! xs[a], xs[b] = e, f of a list of one's own; in, not in, index of a list of anything written -/
namespace DL
open L2 PySem PySem.Spec PyProof.Rows SCo
open Evl (Ex ex_l ex_t sz_of)
section
variable {K : PySem.W.Frag} {T : Tb} {S : SA} {E : XK} {te te2 : TE} {FE FE2 : DT}
end
end DL

/-! == and != of an instance whose class has its own __eq__ with anything; a list of one's own by + -/
namespace SCo
open L2 PySem PySem.Spec PyProof.Rows
def rCmpA (K : PySem.W.Frag) (C : Addr) (sp : Sp) (g : Bool → Bool) : R2 := fun x y H Q => ∃ a dx fs t, x = .ref a ∧ H a = some (.ins C dx fs) ∧ TyX K H y t ∧ PySem.W.notFirst K C t = true ∧ sp [x, y] H (fun v H' => ∃ r, v = .bl r ∧ Q (.bl (g r)) H') (fun _ _ _ => False)
section
variable {X : Cx} {k : Nat} {C : Addr} {sp : Sp}
theorem op_eqAny (h : HasEq X.prog X.w X.K X.mg X.base k C sp) (hr : Room (k + 1) X.A) : OpR X (compareOp .Eq) (rCmpA X.K C sp id) := by
  intro pins s σ H x y v u Q I rx ry hq
  obtain ⟨a, dx, fs, t, rfl, ha, ty, nf, hsp⟩ := hq
  cases rx
  obtain ⟨f, fd, FO, hb, fe, fn, hf, hm⟩ := id h
  obtain ⟨mA, J, _⟩ := ins_get I.hok ha
  obtain ⟨od, J, _⟩ := J.look
  obtain ⟨hP, Z, hp, _⟩ := kit_of I ry ty
  obtain ⟨m, hF⟩ := I.fr
  show wpAny (model X.prog X.w) X.A (richCompare .Eq (.ref a) u) (EP X pins σ Q) X.xe s
  refine PySem.W.cmp_K (op := .Eq) (tb := t) hr.units0 hF I.ok.mod.kin J (Z.ty _ _ I.kIn hp) nf fe hf ?_
  refine wpAny_mono (eq_run (g := id) h (hr.mono (by omega)) rfl I (x := .ref a) rfl ry FO hb hsp) (fun z s' hz => ?_) fun _ _ e => e
  obtain ⟨r, rfl, H', I', q⟩ := hz
  exact ⟨.bl r, H', I', rfl, q⟩
end
end SCo
namespace DL
open L2 PySem PySem.Spec PyProof.Rows SCo
open Evl (Ex ex_l ex_t sz_of)
section
variable {K : PySem.W.Frag} {T : Tb} {S : SA} {E : XK} {ta tb : TE} {F G : DT}
def plainD : D → Bool
  | .exc _ _ _ => false
  | .fnv _ => false
  | .dit _ _ => false
  | _ => true
def xCmpA (K : PySem.W.Frag) (C : Addr) (DS : DSp0) (g : Bool → Bool) (F G : DT) : DT := fun ρ n P XP => F ρ n (fun a n1 => G ρ n1 (fun b n2 => (∃ ns ds, a = .ins C ns ds) ∧ plainD b = true ∧ PySem.W.notFirst K C (tyD b) = true ∧ DS [.d a, .d b] n2 (fun d n3 => ∃ r, d = .bl r ∧ P (.bl (g r)) n3)) XP) XP
theorem rd_cmpA {C : Addr} {DS : DSp0} {g : Bool → Bool} (h1 : DL.Rd K T S E ta F) (h2 : DL.Rd K T S E tb G) : DL.Rd K T S E (tOp (rCmpA K C (sp0 K T DS) g) ta tb) (xCmpA K C DS g F G) := fun σ ρ Hb H n P XP Q w sl h q x => by
  refine h1 σ ρ Hb H n _ XP _ w sl h (fun a v n1 Hb1 H1 s hd p => ?_) x
  refine h2 σ ρ Hb1 H1 n1 _ XP _ s.wd (sl.step s) p (fun b u n2 Hb2 H2 s2 he p2 => ?_) (x.step s)
  obtain ⟨⟨na, da, rfl⟩, hp, nf, p3⟩ := p2
  have hd2 := hd.up s2.ex
  have ty : TyX K H2 u (tyD b) := TyX.of (s2.wd.dn he) (fun _ _ _ z => by rw [z] at hp; cases hp) (fun _ z => by rw [z] at hp; cases hp) (fun _ _ z => by rw [z] at hp; cases hp)
  cases id hd2 with
  | @ins a _ dx fs _ _ hc e1 e2 e3 =>
    refine ⟨a, dx, fs, tyD b, rfl, s2.wd.ex _ _ e1, ty, nf, S, Hb2, n2, _, _, xF, s2.wd, .cons (s := .d _) ⟨_, rfl, hd2⟩ (.cons (s := .d _) ⟨_, rfl, he⟩ .nil), ⟨rfl, p3⟩, fun d z n3 Hb3 H3 s3 hz pz => ?_, .none⟩
    obtain ⟨r, rfl, pz⟩ := pz
    cases hz
    exact ⟨r, rfl, q _ _ n3 Hb3 H3 ((s.trans s2).trans s3) (.bl _) pz⟩
def nfB (K : PySem.W.Frag) (C : Addr) : Bool := (["NoneType", "bool", "int", "str", "list", "tuple", "dict"] : List String).all fun t => PySem.W.notFirst K C (.type t)
theorem nfB_ok {K : PySem.W.Frag} {C : Addr} (h : nfB K C = true) : ∀ t ∈ (["NoneType", "bool", "int", "str", "list", "tuple", "dict"] : List String), PySem.W.notFirst K C (.type t) = true := List.all_eq_true.mp h
/-- xs + e, xs of one's own: a new list of one's own -/
def xnAddO (i : Nat) (F : DT) : DTL := fun ρ n P XP => slotO ρ i fun xs => F ρ n (fun d n1 => ∃ ys, d = .lst ys ∧ xs.length + ys.length ≤ 100000 ∧ P (xs ++ ys) n1) XP
theorem rdn_addO {i : Nat} (h1 : DL.Rd K T S E ta F) : RdN K T S E (tOp (rCatL K) (tVar i) ta) (xnAddO i F) := fun σ ρ Hb H n P XP Q w sl h q x => by
  obtain ⟨xs, p, vs, e, es, e3, e4, e5, e6, e8, e7, h⟩ := sl.own h
  refine ⟨.ref p, es, ?_⟩
  refine h1 σ ρ Hb H n _ XP _ w sl h (fun d v n1 Hb1 H1 s hd pp => ?_) x
  obtain ⟨ys, rfl, hl, pp⟩ := pp
  obtain ⟨g1, g2⟩ := s.own p _ e3 e4 e5 e6 (fun ps z => by cases z)
  have h7 := e7.up s.ex
  cases hd with
  | @lst l us _ g3 g4 =>
    refine ⟨p, l, vs, us, rfl, rfl, SqL.of g1, ex_l s.wd.ex g3, sz_of (by rw [h7.len, g4.len]; exact hl), fun r hr => ?_⟩
    exact q _ r _ n1 Hb1 _ (s.trans (.newO s.wd hr)) (s.dm r (fresh_none hr)) upd_same (free_of s.wd.ex hr) (h7.app g4) pp
end
end DL

namespace Lw
open L2 PySem DL
def topS (i : Nat) : Stmt := PySem.Challenge.pw_oncefound_k10_trees_made_or_refused.main.body.getD i (.Pass ⟨0, 0, 0, 0⟩)
/-- where the classes of the program stand -/
structure Cs where
  BadSeats : Addr
  BadTies : Addr
  FoundError : Addr
  Tree : Addr
structure Tk where
  LEAST_TIES_AT_LOST : Tok
  MOST_TIES : Tok
  MOST_VALLEYS : Tok
structure Txt (K : PySem.W.Frag) (mg : Str → Option Value) (cs : Cs) (tk : Tk) : Prop where
  n_abs : mg "abs" = none
  n_all : mg "all" = none
  n_bool : mg "bool" = none
  n_enumerate : mg "enumerate" = none
  n_int : mg "int" = none
  n_isinstance : mg "isinstance" = none
  n_len : mg "len" = none
  n_list : mg "list" = none
  n_max : mg "max" = none
  n_min : mg "min" = none
  n_range : mg "range" = none
  n_repr : mg "repr" = none
  n_sorted : mg "sorted" = none
  n_tuple : mg "tuple" = none
  n_zip : mg "zip" = none
  k_LEAST_TIES_AT_LOST : True ∧ mg "LEAST_TIES_AT_LOST" = some (.int 3 tk.LEAST_TIES_AT_LOST)
  k_MOST_TIES : True ∧ mg "MOST_TIES" = some (.int 21 tk.MOST_TIES)
  k_MOST_VALLEYS : True ∧ mg "MOST_VALLEYS" = some (.int 12 tk.MOST_VALLEYS)
  g_BadSeats : mg "BadSeats" = some (.ref cs.BadSeats)
  g_BadTies : mg "BadTies" = some (.ref cs.BadTies)
  g_FoundError : mg "FoundError" = some (.ref cs.FoundError)
  g_Tree : mg "Tree" = some (.ref cs.Tree)
  x_BadSeats : PySem.W.excIn K cs.BadSeats [.type "ValueError", .type "Exception", .type "BaseException", .type "object"] "ValueError.__new__" = true
  e_BadSeats : PySem.W.keepIn K (.ref cs.BadSeats) = true
  b_BadSeats : PySem.W.subIn K (.ref cs.BadSeats) (.type "BaseException") = some true
  t_BadSeats : PySem.W.typeIn K (.ref cs.BadSeats) = some (.type "type")
  r_BadSeats : ErrC K cs.FoundError cs.BadSeats
  i_BadSeats : PySem.W.kitOne K (.ref cs.BadSeats) (.ref cs.BadSeats) = some true
  v_BadSeats : PySem.W.kitOne K (.ref cs.BadSeats) (.type "ValueError") = some true
  x_BadTies : PySem.W.excIn K cs.BadTies [.type "ValueError", .type "Exception", .type "BaseException", .type "object"] "ValueError.__new__" = true
  e_BadTies : PySem.W.keepIn K (.ref cs.BadTies) = true
  b_BadTies : PySem.W.subIn K (.ref cs.BadTies) (.type "BaseException") = some true
  t_BadTies : PySem.W.typeIn K (.ref cs.BadTies) = some (.type "type")
  r_BadTies : ErrC K cs.FoundError cs.BadTies
  i_BadTies : PySem.W.kitOne K (.ref cs.BadTies) (.ref cs.BadTies) = some true
  v_BadTies : PySem.W.kitOne K (.ref cs.BadTies) (.type "ValueError") = some true
  ic_Tree : InC K cs.Tree
  no_Tree : ∀ t ∈ ["NoneType", "bool", "int", "str", "list", "tuple", "dict"], PySem.W.kitOne K (.type t) (.ref cs.Tree) = some false
  nf_Tree : ∀ t ∈ (["NoneType", "bool", "int", "str", "list", "tuple", "dict"] : List String), PySem.W.notFirst K cs.Tree (.type t) = true
  i_Tree : PySem.W.kitOne K (.ref cs.Tree) (.ref cs.Tree) = some true
  na_Tree_ties : NoAttr K cs.Tree "ties"
  na_Tree_seats : NoAttr K cs.Tree "seats"
end Lw

namespace Lw
open L2 PySem DL
/-! the mathematics of tables -/
mutual
/-- nothing that was caught is in it -/
def nx : D → Bool
  | .exc _ _ _ => false
  | .fnv _ => false
  | .dit _ _ => false
  | .lst xs => nxs xs
  | .tup xs => nxs xs
  | .dic _ xs => nxs xs
  | .ins _ _ xs => nxs xs
  | _ => true
def nxs : List D → Bool
  | [] => true
  | d :: ds => nx d && nxs ds
end
theorem bare_of {d : D} (h : nx d = true) : bareD d := by cases d <;> first | trivial | (simp [nx] at h)
theorem nxs_mem : ∀ {ds : List D} {d : D}, nxs ds = true → d ∈ ds → nx d = true
  | e :: es, d, h, hm => by
    simp [nxs] at h
    rcases List.mem_cons.mp hm with rfl | hm
    · exact h.1
    · exact nxs_mem h.2 hm
theorem nxs_of : ∀ {ds : List D}, (∀ d ∈ ds, nx d = true) → nxs ds = true
  | [], _ => rfl
  | d :: ds, h => by
    simp only [nxs, Bool.and_eq_true]
    exact ⟨h d List.mem_cons_self, nxs_of fun e he => h e (List.mem_cons_of_mem _ he)⟩
def betw (lo hi : Int) : D → Bool
  | .int i => decide (lo ≤ i) && decide (i ≤ hi)
  | _ => false
theorem compM_map {step : D → Nat → (Option D → Nat → Prop) → Prop} {f : D → D} : ∀ {xs : List D} {n : Nat} {P : List D → Nat → Prop}, (∀ x ∈ xs, ∀ n (k : Option D → Nat → Prop), k (some (f x)) n → step x n k) → P (xs.map f) n → compM step xs n P
  | [], _, _, _, p => p
  | x :: xs, n, P, h, p => h x List.mem_cons_self n _ (compM_map (fun y hy => h y (List.mem_cons_of_mem _ hy)) p)
theorem compM_filter {step : D → Nat → (Option D → Nat → Prop) → Prop} {f : D → Option D} : ∀ {xs : List D} {n : Nat} {P : List D → Nat → Prop}, (∀ x ∈ xs, ∀ n (k : Option D → Nat → Prop), k (f x) n → step x n k) → P (xs.filterMap f) n → compM step xs n P
  | [], _, _, _, p => p
  | x :: xs, n, P, h, p => h x List.mem_cons_self n _ (compM_filter (fun y hy => h y (List.mem_cons_of_mem _ hy)) (by
      rw [List.filterMap_cons] at p
      cases e : f x with
      | none => rw [e] at p; exact p
      | some d => rw [e] at p; exact p))
theorem blsD_map {α : Type} {f : α → Bool} : ∀ {xs : List α}, blsD (xs.map fun x => D.bl (f x)) = some (xs.map f)
  | [] => rfl
  | x :: xs => by simp [blsD, blsD_map (xs := xs)]
theorem all_map {α : Type} {f : α → Bool} {xs : List α} : (xs.map f).all id = xs.all f := by simp [List.all_map]
theorem allD_map {f : D → Bool} {xs : List D} {k : D → Prop} (h : k (.bl (xs.all f))) : allD' (.lst (xs.map fun x => .bl (f x))) k := ⟨_, blsD_map, by rw [all_map]; exact h⟩
theorem toPs_ints : ∀ js : List Int, toPs (js.map D.int) = some (js.map PyData.int)
  | [] => rfl
  | j :: js => by simp [toPs, toP, toPs_ints js]
theorem lay_ints : ∀ js : List Int, PySem.PyData.canLayAll0 (js.map PyData.int) = true
  | [] => rfl
  | j :: js => by simp [PySem.PyData.canLayAll0, PySem.PyData.canLay0, lay_ints js]
theorem dep_ints : ∀ js : List Int, PySem.PyData.depthAll (js.map PyData.int) = 0
  | [] => rfl
  | j :: js => by simp [PySem.PyData.depthAll, PySem.PyData.depth, dep_ints js]
theorem eq_ints {f : Bool → Bool} {js : List Int} {k : D → Prop} (h : k (.bl (f js.isEmpty))) : eqP f (.lst (js.map D.int)) (.lst []) k := by
  refine ⟨.list (js.map PyData.int), .list [], by simp [toP, toPs_ints], by simp [toP, toPs], ?_, ?_, ?_⟩
  · simp [SeqAt.shaped, PySem.PyData.canLay0, PySem.PyData.depth, lay_ints, dep_ints]
  · simp [SeqAt.shaped, PySem.PyData.canLay0, PySem.PyData.canLayAll0, PySem.PyData.depth, PySem.PyData.depthAll]
  · cases js <;> simpa [PyData.eqv, PyData.eqvAll] using h
def ones {α : Type} (b : α → Bool) (xs : List α) : List D := xs.filterMap fun x => if b x then some (D.int 1) else none
theorem ones_eq {α : Type} {b : α → Bool} : ∀ {xs : List α}, ones b xs = ((xs.filter b).map fun _ => (1 : Int)).map D.int
  | [] => rfl
  | x :: xs => by
    have z := ones_eq (b := b) (xs := xs)
    unfold ones at z ⊢
    rw [List.filterMap_cons, List.filter_cons]
    cases h : b x
    · simpa using z
    · simpa using z
theorem eq_ones {α : Type} {b : α → Bool} {xs : List α} {f : Bool → Bool} {k : D → Prop} (h : k (.bl (f (xs.all fun x => !b x)))) : eqP f (.lst (ones b xs)) (.lst []) k := by
  rw [ones_eq]
  refine eq_ints ?_
  have e : ((xs.filter b).map fun _ => (1 : Int)).isEmpty = xs.all fun x => !b x := by
    rw [Bool.eq_iff_iff]
    simp [List.filter_eq_nil_iff]
  rw [e]
  exact h
theorem at_nat {xs : List D} {j : Nat} {d : D} (h : xs[j]? = some d) : atD xs (j : Int) = some d := by
  have hj := (List.getElem?_eq_some_iff.mp h).1
  have e : ixN xs.length (j : Int) = some j := by
    unfold ixN
    rw [if_pos (by omega), if_pos (by omega), Int.toNat_natCast]
  unfold atD
  rw [e]
  exact h
theorem at_zero {x : D} {xs : List D} : atD (x :: xs) 0 = some x := at_nat (j := 0) rfl
theorem cut_to {xs : List D} {i : Nat} : cutD xs none (some (i : Int)) = xs.take i := by
  unfold cutD
  rw [HT.sIx_nat, HT.sIx_none, List.drop_zero]
  simp [List.take_eq_take_iff]
theorem cut_from {xs : List D} {i : Nat} : cutD xs (some (i : Int)) none = xs.drop i := by
  unfold cutD
  rw [HT.sIx_nat, HT.sIx_none]
  by_cases h : i ≤ xs.length
  · rw [Nat.min_eq_left h]
    exact List.take_of_length_le (by simp)
  · rw [Nat.min_eq_right (by omega)]
    rw [List.drop_of_length_le (Nat.le_refl _), List.drop_of_length_le (by omega)]
    simp
theorem cut_from1 {xs : List D} {i : Nat} : cutD xs (some ((i : Int) + 1)) none = xs.drop (i + 1) := cut_from (i := i + 1)
theorem vd_k {a b : D} : valD [Sum.inr (Str.ofString "kinds"), Sum.inr (Str.ofString "rows")] [a, b] (Sum.inr (Str.ofString "kinds")) = some a := rfl
theorem vd_r {a b : D} : valD [Sum.inr (Str.ofString "kinds"), Sum.inr (Str.ofString "rows")] [a, b] (Sum.inr (Str.ofString "rows")) = some b := by
  have e : ¬ (Sum.inr (Str.ofString "kinds") : Key) = Sum.inr (Str.ofString "rows") := by simp; decide
  unfold valD
  rw [if_neg e]
  unfold valD
  exact if_pos rfl
theorem lim {n : Nat} (h : n < 1099511627776) : n < LIM := h
theorem kit_no {K : PySem.W.Frag} {C : Addr} (no : ∀ t ∈ ["NoneType", "bool", "int", "str", "list", "tuple", "dict"], PySem.W.kitOne K (.type t) (.ref C) = some false) {d : D} (h : nx d = true) (hi : ∀ C ns ds, d ≠ .ins C ns ds) : PySem.W.kitOne K (tyD d) (.ref C) = some false := by
  cases d with
  | non => exact no "NoneType" (by simp)
  | bl b => exact no "bool" (by simp)
  | int i => exact no "int" (by simp)
  | str x => exact no "str" (by simp)
  | lst xs => exact no "list" (by simp)
  | tup xs => exact no "tuple" (by simp)
  | dic ks ds => exact no "dict" (by simp)
  | ins C ns ds => exact absurd rfl (hi C ns ds)
  | exc C ns ds => simp [nx] at h
  | fnv f => simp [nx] at h
  | dit ks ds => simp [nx] at h
/-! what repr shows of small data -/
mutual
def smB : D → Bool
  | .int i => decide (i.natAbs < 1000)
  | .non => true
  | .bl _ => true
  | .tup xs => smA xs
  | _ => false
def smA : List D → Bool
  | [] => true
  | d :: ds => smB d && smA ds
end
mutual
def lnB : D → Nat
  | .int i => i.natAbs + 2
  | .non => 4
  | .bl _ => 5
  | .tup xs => lnA xs + 4
  | .lst xs => lnA xs + 4
  | _ => 0
def lnA : List D → Nat
  | [] => 0
  | d :: ds => lnB d + 2 + lnA ds
end
mutual
def dpB : D → Nat
  | .tup xs => dpA xs + 1
  | .lst xs => dpA xs + 1
  | _ => 0
def dpA : List D → Nat
  | [] => 0
  | d :: ds => max (dpB d) (dpA ds)
end
theorem tupText_le (ts : List Str) : (tupleText ts).length ≤ piled ts + 4 := by
  unfold tupleText
  rw [Str.length_append, Str.length_append]
  have h1 : (("(" : Str)).length = 1 := by decide
  have h2 : (Str.ofString (if (ts.length == 1) = true then ",)" else ")")).length ≤ 2 := by split <;> decide
  have h3 : (Str.join ", " ts).length ≤ piled ts := by
    cases ts with
    | nil => decide
    | cons a b =>
      have := join_length_add (a :: b) (by simp)
      omega
  omega
mutual
theorem sm_toP : ∀ d : D, smB d = true → ∃ p, toP d = some p ∧ p.showable = true ∧ p.hasDict = false ∧ p.depth ≤ dpB d ∧ p.shown.length ≤ lnB d
  | .int i, h => by
    have hi : i.natAbs < 1000 := by simpa [smB] using h
    refine ⟨.int i, rfl, ?_, rfl, Nat.le_refl _, ?_⟩
    · have := Nat.log2_le_self i.natAbs
      simp only [PySem.PyData.showable, decide_eq_true_eq]
      omega
    · have := PyProof.Rows.len_str_of_int i
      show (Str.ofString (toString i)).length ≤ i.natAbs + 2
      omega
  | .non, _ => ⟨.none, rfl, rfl, rfl, Nat.le_refl _, by decide⟩
  | .bl b, _ => ⟨.bool b, rfl, rfl, rfl, Nat.le_refl _, by cases b <;> decide⟩
  | .tup xs, h => by
    obtain ⟨ps, e, h1, h2, h3, h4⟩ := sm_toPs xs (by simpa [smB] using h)
    refine ⟨.tuple ps, by simp [toP, e], by simpa [PySem.PyData.showable] using h1, by simpa [PySem.PyData.hasDict] using h2, ?_, ?_⟩
    · show PySem.PyData.depthAll ps + 1 ≤ dpA xs + 1
      omega
    · have z := tupText_le (PySem.PyData.shownAll ps)
      show (tupleText (PySem.PyData.shownAll ps)).length ≤ lnA xs + 4
      omega
  | .lst _, h => by simp [smB] at h
  | .str _, h => by simp [smB] at h
  | .dic _ _, h => by simp [smB] at h
  | .ins _ _ _, h => by simp [smB] at h
  | .exc _ _ _, h => by simp [smB] at h
  | .fnv _, h => by simp [smB] at h
  | .dit _ _, h => by simp [smB] at h
theorem sm_toPs : ∀ ds : List D, smA ds = true → ∃ ps, toPs ds = some ps ∧ PySem.PyData.showableAll ps = true ∧ PySem.PyData.hasDictAll ps = false ∧ PySem.PyData.depthAll ps ≤ dpA ds ∧ piled (PySem.PyData.shownAll ps) ≤ lnA ds
  | [], _ => ⟨[], rfl, rfl, rfl, Nat.le_refl _, Nat.le_refl _⟩
  | d :: ds, h => by
    simp only [smA, Bool.and_eq_true] at h
    obtain ⟨p, e, h1, h2, h3, h4⟩ := sm_toP d h.1
    obtain ⟨ps, e', g1, g2, g3, g4⟩ := sm_toPs ds h.2
    refine ⟨p :: ps, by simp [toPs, e, e'], by simp [PySem.PyData.showableAll, h1, g1], by simp [PySem.PyData.hasDictAll, h2, g2], ?_, ?_⟩
    · simp only [PySem.PyData.depthAll, dpA]
      omega
    · simp only [PySem.PyData.shownAll, lnA]
      rw [piled_cons]
      omega
end
theorem lnA_le {M : Nat} : ∀ {ds : List D}, (∀ d ∈ ds, lnB d ≤ M) → lnA ds ≤ ds.length * (M + 2)
  | [], _ => Nat.zero_le _
  | d :: ds, h => by
    have h1 := h d List.mem_cons_self
    have h2 := lnA_le (M := M) (ds := ds) fun e he => h e (List.mem_cons_of_mem _ he)
    simp only [lnA, List.length_cons]
    rw [Nat.succ_mul]
    omega
theorem dpA_le {M : Nat} : ∀ {ds : List D}, (∀ d ∈ ds, dpB d ≤ M) → dpA ds ≤ M
  | [], _ => Nat.zero_le _
  | d :: ds, h => by
    have h1 := h d List.mem_cons_self
    have h2 := dpA_le (M := M) (ds := ds) fun e he => h e (List.mem_cons_of_mem _ he)
    simp only [dpA]
    omega
theorem smA_of : ∀ {ds : List D}, (∀ d ∈ ds, smB d = true) → smA ds = true
  | [], _ => rfl
  | d :: ds, h => by simp only [smA, Bool.and_eq_true]; exact ⟨h d List.mem_cons_self, smA_of fun e he => h e (List.mem_cons_of_mem _ he)⟩
theorem range_len {m : Nat} : (rangeD 0 (m : Int).toNat).length = m := by simp [rangeD]
theorem range_mem {m : Nat} {x : D} (h : x ∈ rangeD 0 (m : Int).toNat) : ∃ i : Nat, i < m ∧ x = .int (i : Int) := by
  unfold rangeD at h
  rw [Int.toNat_natCast] at h
  obtain ⟨i, hi, rfl⟩ := List.mem_map.mp h
  exact ⟨i, List.mem_range.mp hi, by simp⟩
theorem range_get {m i : Nat} {x : D} (h : (rangeD 0 (m : Int).toNat)[i]? = some x) : i < m ∧ x = .int (i : Int) := by
  unfold rangeD at h
  rw [Int.toNat_natCast, List.getElem?_map] at h
  cases e : (List.range m)[i]? with
  | none => rw [e] at h; cases h
  | some j =>
    rw [e] at h
    obtain ⟨h3, h4⟩ := List.getElem?_eq_some_iff.mp e
    simp at h3 h4
    subst h4
    cases h
    exact ⟨h3, by simp⟩
theorem upd_upd {H : L2.Hp} {p : Addr} {o u : L2.HO} : L2.upd (L2.upd H p o) p u = L2.upd H p u := by
  funext b
  by_cases h : b = p
  · rw [h, L2.upd_same, L2.upd_same]
  · rw [L2.upd_ne h, L2.upd_ne h, L2.upd_ne h]
def absI (z : Int) : Int := if z < 0 then -z else z
def bigI (ys : List Int) : List Int := (ys.filter fun y => decide ((10 : Int) ^ 18 ≤ y)).map fun y => y - 10 ^ 18
theorem bigI_snoc {ys : List Int} {y : Int} : bigI (ys ++ [y]) = if (10 : Int) ^ 18 ≤ y then bigI ys ++ [y - 10 ^ 18] else bigI ys := by
  unfold bigI
  rw [List.filter_append, List.map_append]
  by_cases h : (10 : Int) ^ 18 ≤ y
  · rw [if_pos h, List.filter_cons_of_pos (by simpa using h)]
    rfl
  · rw [if_neg h, List.filter_cons_of_neg (by simpa using h)]
    simp
/-! ### rows of ints, lots -/
def toI : D → Int
  | .int i => i
  | _ => 0
def intsOf (xs : List D) : List Int := xs.map toI
theorem betw_int {lo hi : Int} {d : D} (h : betw lo hi d = true) : d = .int (toI d) ∧ lo ≤ toI d ∧ toI d ≤ hi := by
  cases d with
  | int i => simpa [betw, toI] using h
  | _ => simp [betw] at h
theorem ints_eq {lo hi : Int} : ∀ {xs : List D}, xs.all (betw lo hi) = true → xs = (intsOf xs).map D.int
  | [], _ => rfl
  | x :: xs, h => by
    simp only [List.all_cons, Bool.and_eq_true] at h
    show x :: xs = D.int (toI x) :: (intsOf xs).map D.int
    rw [← (betw_int h.1).1, ← ints_eq h.2]
theorem intsOf_map {ns : List Int} : intsOf (ns.map D.int) = ns := by
  unfold intsOf
  rw [List.map_map]
  conv => rhs; rw [← List.map_id ns]
  rfl
def risB : List Int → Bool
  | [] => true
  | [_] => true
  | a :: b :: l => decide (a < b) && risB (b :: l)
theorem risB_zip : ∀ {ns : List Int}, ((ns.zip (ns.drop 1)).all fun p => decide (p.1 < p.2)) = risB ns
  | [] => rfl
  | [_] => rfl
  | a :: b :: l => by
    have z := risB_zip (ns := b :: l)
    show (decide (a < b) && (((b :: l).zip ((b :: l).drop 1)).all fun p => decide (p.1 < p.2))) = _
    rw [z]
    rfl
def shortD : D → Bool
  | .tup xs => decide (xs.length ≤ 100)
  | _ => true
theorem cut_from_one {xs : List D} : cutD xs (some 1) none = xs.drop 1 := cut_from (i := 1)
theorem compM_sub {step : D → Nat → (Option D → Nat → Prop) → Prop} {c N : Nat} : ∀ (xs : List D) (n : Nat) (P : List D → Nat → Prop), n + c * xs.length ≤ N →
    (∀ x ∈ xs, ∀ (m : Nat) (k : Option D → Nat → Prop), m + c ≤ N → (∀ o m', m' ≤ m + c → (o = none ∨ o = some x) → k o m') → step x m k) →
    (∀ (ds : List D) (m' : Nat), m' ≤ n + c * xs.length → ds.Sublist xs → P ds m') → compM step xs n P
  | [], n, P, _, _, h => h [] n (by simp) .slnil
  | x :: xs, n, P, hN, hs, h => by
    have e : c * (x :: xs).length = c * xs.length + c := by rw [List.length_cons, Nat.mul_succ]
    rw [e] at hN
    refine hs x List.mem_cons_self n _ (by omega) fun o m' hm ho => ?_
    rcases ho with rfl | rfl
    · exact compM_sub xs m' _ (by omega) (fun y hy => hs y (List.mem_cons_of_mem _ hy)) fun ds m2 h2 hl => h ds m2 (by rw [e]; omega) (.cons _ hl)
    · exact compM_sub xs m' _ (by omega) (fun y hy => hs y (List.mem_cons_of_mem _ hy)) fun ds m2 h2 hl => h (x :: ds) m2 (by rw [e]; omega) (.cons_cons _ hl)
theorem zip_ints : ∀ {ns ms : List Int}, zipD (ns.map D.int) (ms.map D.int) = (ns.zip ms).map fun p => D.tup [.int p.1, .int p.2]
  | [], _ => by simp [zipD]
  | _ :: _, [] => by simp [zipD]
  | n :: ns, m :: ms => by
    have z := zip_ints (ns := ns) (ms := ms)
    unfold zipD at z ⊢
    simp only [List.map_cons, List.zip_cons_cons, z]
theorem rising_zip {ns : List Int} : zipD (ns.map D.int) ((ns.map D.int).drop 1) = (ns.zip (ns.drop 1)).map fun p => D.tup [.int p.1, .int p.2] := by
  rw [← List.map_drop, zip_ints]
theorem len0 {xs : List D} : decide ((xs.length : Int) = 0) = xs.isEmpty := by
  cases xs with
  | nil => rfl
  | cons x t =>
    have : ¬ ((x :: t).length : Int) = 0 := by simp only [List.length_cons]; omega
    rw [decide_eq_false this]
    rfl
theorem intsOf_len {xs : List D} : (intsOf xs).length = xs.length := by simp [intsOf]
theorem ones_nil {α : Type} {b : α → Bool} : ∀ {xs : List α}, (ones b xs).isEmpty = xs.all fun x => !b x
  | [] => rfl
  | x :: xs => by
    have z := ones_nil (b := b) (xs := xs)
    unfold ones at z ⊢
    rw [List.filterMap_cons, List.all_cons]
    cases h : b x
    · simpa using z
    · rfl
theorem nxs_ints {ns : List Int} : nxs (ns.map D.int) = true := nxs_of fun d hd => by
  obtain ⟨i, _, rfl⟩ := List.mem_map.mp hd
  rfl
/-! ### tables made of tables -/
/-! ### tables told over and over -/
/-! tables of two customs -/
open SCo
def sharedL (xs ys : List Int) : List Int := xs.filter fun x => ys.any (· == x)
def crossB (xs ys : List Int) : Bool := decide (0 < (sharedL xs ys).length) && decide ((sharedL xs ys).length < min xs.length ys.length)
theorem all_ints : ∀ {ds : List D}, (∀ d ∈ ds, ∃ i, d = .int i) → ds = (intsOf ds).map D.int
  | [], _ => rfl
  | d :: ds, h => by
    obtain ⟨i, rfl⟩ := h d List.mem_cons_self
    show D.int i :: ds = D.int i :: (intsOf ds).map D.int
    rw [← all_ints fun d hd => h d (List.mem_cons_of_mem _ hd)]
theorem range_int {a : Int} {k : Nat} {x : D} (h : x ∈ rangeD a k) : ∃ i, x = .int i := by
  unfold rangeD at h
  obtain ⟨i, _, e⟩ := List.mem_map.mp h
  exact ⟨_, e.symm⟩
theorem hd_ok {nss : List (List Int)} (h : ∀ l ∈ nss, l ≠ []) : SCo.HdOk nss := by
  cases nss with
  | nil => exact .inl (by simp)
  | cons a l => exact .inr ⟨a, l, rfl, h a List.mem_cons_self⟩
theorem sortL_perm (nss : List (List Int)) : (sortL nss).Perm nss := List.mergeSort_perm ..
def oneT (x : D) : D := .tup [x]
/-! trees -/
open SCo
def intsD : D → List Int
  | .tup ds => intsOf ds
  | _ => []
theorem intsD_tup {r : List Int} : intsD (tupI r) = r := intsOf_map
def pairI (t : Int × Int) : D := tupI [t.1, t.2]
def atB (p : Int) (t : Int × Int) : Bool := decide (t.1 = p ∨ t.2 = p)
def atF (p : Int) : D → Option D
  | .tup [.int a, .int b] => match atB p (a, b) with
    | true => some (pairI (a, b))
    | false => none
  | _ => none
theorem atF_map {p : Int} : ∀ {ts : List (Int × Int)}, (ts.map pairI).filterMap (atF p) = (ts.filter (atB p)).map pairI
  | [] => rfl
  | t :: ts => by
    have ih := atF_map (p := p) (ts := ts)
    rw [List.map_cons, List.filterMap_cons, List.filter_cons]
    cases h : atB p t with
    | true =>
      have e : atF p (pairI t) = some (pairI t) := by
        show (match atB p (t.1, t.2) with | true => some (pairI (t.1, t.2)) | false => none) = _
        rw [h]
      rw [e, ih]
      rfl
    | false =>
      have e : atF p (pairI t) = none := by
        show (match atB p (t.1, t.2) with | true => some (pairI (t.1, t.2)) | false => none) = _
        rw [h]
      rw [e, ih]
      rfl
def keyI (i : Int) : Key := .inl i
/-- what steps_to has found: places in turn, and the next one on the way of each -/
structure StepI (ts : List (Int × Int)) (goal : Int) (ks vs stack : List Int) : Prop where
  nd : ks.Nodup
  ln : vs.length = ks.length
  hd : ks[0]? = some goal
  hv : vs[0]? = some goal
  rng : ∀ k ∈ ks, 0 ≤ k ∧ k ≤ (ts.length : Int)
  sub : ∀ s ∈ stack, s ∈ ks
  snd : stack.Nodup
  back : ∀ (i : Nat) (k v : Int), 1 ≤ i → ks[i]? = some k → vs[i]? = some v → ((k, v) ∈ ts ∨ (v, k) ∈ ts) ∧ ∃ j : Nat, j < i ∧ ks[j]? = some v
structure StepsOk (ts : List (Int × Int)) (goal : Int) (ks vs : List Int) : Prop where
  i : StepI ts goal ks vs []
  cl : ∀ t ∈ ts, (t.1 ∈ ks ↔ t.2 ∈ ks)
structure TsOk (ts : List (Int × Int)) : Prop where
  l : ts.length ≤ 60
  b : ∀ t ∈ ts, 0 ≤ t.1 ∧ t.1 ≤ (ts.length : Int) ∧ 0 ≤ t.2 ∧ t.2 ≤ (ts.length : Int)
theorem nlenT {α : Type} [DecidableEq α] : ∀ {l m : List α}, l.Nodup → (∀ x ∈ l, x ∈ m) → l.length ≤ m.length
  | [], _, _, _ => Nat.zero_le _
  | a :: l, m, h, g => by
    obtain ⟨h1, h2⟩ := List.nodup_cons.mp h
    have z := nlenT (l := l) (m := m.erase a) h2 fun x hx => (List.mem_erase_of_ne (fun e => h1 (by rw [← e]; exact hx))).mpr (g x (List.mem_cons_of_mem _ hx))
    rw [List.length_erase_of_mem (g a List.mem_cons_self)] at z
    have := List.length_pos_of_mem (g a List.mem_cons_self)
    simp only [List.length_cons]
    omega
def upTo (n : Nat) : List Int := (List.range (n + 1)).map Int.ofNat
theorem upTo_mem {n : Nat} {k : Int} : k ∈ upTo n ↔ 0 ≤ k ∧ k ≤ (n : Int) := by
  unfold upTo
  rw [List.mem_map]
  constructor
  · rintro ⟨i, hi, rfl⟩
    have := List.mem_range.mp hi
    exact ⟨Int.natCast_nonneg i, by show (i : Int) ≤ n; omega⟩
  · rintro ⟨h0, h1⟩
    exact ⟨k.toNat, List.mem_range.mpr (by omega), Int.toNat_of_nonneg h0⟩
theorem upTo_len {n : Nat} : (upTo n).length = n + 1 := by unfold upTo; rw [List.length_map, List.length_range]
theorem StepI.few {ts : List (Int × Int)} {goal : Int} {ks vs st : List Int} (h : StepI ts goal ks vs st) : ks.length ≤ ts.length + 1 := by
  have z := nlenT h.nd (m := upTo ts.length) fun k hk => upTo_mem.mpr (h.rng k hk)
  rw [upTo_len] at z
  exact z
theorem stepI_start {ts : List (Int × Int)} {goal : Int} (g0 : 0 ≤ goal) (g1 : goal ≤ (ts.length : Int)) : StepI ts goal [goal] [goal] [goal] :=
  ⟨by simp, rfl, rfl, rfl, fun k hk => by rw [List.mem_singleton.mp hk]; exact ⟨g0, g1⟩, fun s hs => hs, by simp, fun i k v hi hk _ => by
    rw [List.getElem?_eq_none (by simp only [List.length_cons, List.length_nil]; omega)] at hk
    cases hk⟩
theorem stepI_add {ts : List (Int × Int)} {goal f pl : Int} {ks vs st : List Int} (h : StepI ts goal ks vs st) (hp : pl ∈ ks) (hf : f ∉ ks) (ht : (f, pl) ∈ ts ∨ (pl, f) ∈ ts) (f0 : 0 ≤ f) (f1 : f ≤ (ts.length : Int)) : StepI ts goal (ks ++ [f]) (vs ++ [pl]) (st ++ [f]) := by
  have hne : 0 < ks.length := List.length_pos_of_mem hp
  refine ⟨?_, by rw [List.length_append, List.length_append, h.ln]; rfl, ?_, ?_, fun k hk => ?_, fun s hs => ?_, ?_, fun i k v hi hk hv => ?_⟩
  · rw [List.nodup_append]
    exact ⟨h.nd, by simp, fun a ha b hb e => by rw [List.mem_singleton.mp hb] at e; exact hf (by rw [← e]; exact ha)⟩
  · rw [List.getElem?_append_left hne]
    exact h.hd
  · rw [List.getElem?_append_left (by rw [h.ln]; exact hne)]
    exact h.hv
  · rcases List.mem_append.mp hk with hk | hk
    · exact h.rng k hk
    · rw [List.mem_singleton.mp hk]
      exact ⟨f0, f1⟩
  · rcases List.mem_append.mp hs with hs | hs
    · exact List.mem_append_left _ (h.sub s hs)
    · exact List.mem_append_right _ hs
  · rw [List.nodup_append]
    exact ⟨h.snd, by simp, fun a ha b hb e => by rw [List.mem_singleton.mp hb] at e; exact hf (by rw [← e]; exact h.sub a ha)⟩
  · by_cases hlt : i < ks.length
    · rw [List.getElem?_append_left hlt] at hk
      rw [List.getElem?_append_left (by rw [h.ln]; exact hlt)] at hv
      obtain ⟨h1, j, hj, e⟩ := h.back i k v hi hk hv
      exact ⟨h1, j, hj, by rw [List.getElem?_append_left (by omega)]; exact e⟩
    · have hil : i < (ks ++ [f]).length := (List.getElem?_eq_some_iff.mp hk).1
      rw [List.length_append] at hil
      simp only [List.length_cons, List.length_nil] at hil
      have hi2 : i = ks.length := by omega
      subst hi2
      rw [List.getElem?_append_right (Nat.le_refl _), Nat.sub_self] at hk
      rw [List.getElem?_append_right (by rw [h.ln]; exact Nat.le_refl _), h.ln, Nat.sub_self] at hv
      cases hk
      cases hv
      obtain ⟨j, e⟩ := List.mem_iff_getElem?.mp hp
      have hj := (List.getElem?_eq_some_iff.mp e).1
      exact ⟨ht, j, hj, by rw [List.getElem?_append_left hj]; exact e⟩
theorem stepI_pop {ts : List (Int × Int)} {goal y : Int} {ks vs ys : List Int} (h : StepI ts goal ks vs (ys ++ [y])) : StepI ts goal ks vs ys ∧ y ∈ ks ∧ y ∉ ys := by
  have hn := h.snd
  rw [List.nodup_append] at hn
  exact ⟨⟨h.nd, h.ln, h.hd, h.hv, h.rng, fun s hs => h.sub s (List.mem_append_left _ hs), hn.1, h.back⟩, h.sub y (List.mem_append_right _ (List.mem_singleton.mpr rfl)), fun hy => hn.2.2 y hy y (List.mem_singleton.mpr rfl) rfl⟩
/-- all is done for the places that are neither in the stack nor among these -/
def DoneI (ts : List (Int × Int)) (ks st ex : List Int) : Prop := ∀ k ∈ ks, k ∉ st → k ∉ ex → ∀ t ∈ ts, (t.1 = k → t.2 ∈ ks) ∧ (t.2 = k → t.1 ∈ ks)
theorem doneI_add {ts : List (Int × Int)} {ks st ex : List Int} {f : Int} (h : DoneI ts ks st ex) : DoneI ts (ks ++ [f]) (st ++ [f]) ex := fun k hk hs hx t ht => by
  have hf : k ≠ f := fun e => hs (List.mem_append_right _ (List.mem_singleton.mpr e))
  have hk' : k ∈ ks := (List.mem_append.mp hk).resolve_right fun z => hf (List.mem_singleton.mp z)
  obtain ⟨a, b⟩ := h k hk' (fun z => hs (List.mem_append_left _ z)) hx t ht
  exact ⟨fun e => List.mem_append_left _ (a e), fun e => List.mem_append_left _ (b e)⟩
theorem keys_in {k : Int} {ks : List Int} : keyIn (keyI k) (ks.map keyI) = decide (k ∈ ks) := by
  by_cases h : k ∈ ks
  · rw [decide_eq_true h]
    exact keyIn_mem.mpr (List.mem_map_of_mem h)
  · rw [decide_eq_false h, Bool.eq_false_iff]
    intro z
    obtain ⟨j, hj, e⟩ := List.mem_map.mp (keyIn_mem.mp z)
    cases e
    exact h hj
/-! judging ties and seats -/
def risL (nss : List (List Int)) : Bool := (nss.zip (nss.drop 1)).all fun p => ltI p.1 p.2
def ltF : D → D
  | .tup [.int a, .int b] => .bl (decide (a < b))
  | .tup [.tup xs, .tup ys] => .bl (ltI (intsOf xs) (intsOf ys))
  | _ => .non
theorem zipT_map {nss : List (List Int)} : ∀ {mss : List (List Int)}, zipD (nss.map tupI) (mss.map tupI) = (nss.zip mss).map fun p => .tup [tupI p.1, tupI p.2] := by
  intro mss
  unfold zipD
  rw [List.zip_map, List.map_map]
  rfl
def lotB2 (lo hi : Int) : D → Bool
  | .tup xs => !xs.isEmpty && xs.all (betw lo hi) && risB (intsOf xs)
  | _ => false
def tR : List PySem.Str := ["ties", "seats"]
def treeD (C : Addr) (ts : List (Int × Int)) (seats : List Int) : D := .ins C tR [.tup (ts.map pairI), tupI seats]
structure TiesOk (ts : List (Int × Int)) : Prop where
  l : ts.length ≤ 21
  b : ∀ t ∈ ts, 0 ≤ t.1 ∧ t.1 < t.2 ∧ t.2 ≤ (ts.length : Int)
  ris : risL (ts.map fun t => [t.1, t.2]) = true
  conn : ∀ ks vs, StepsOk ts 0 ks vs → ks.length = ts.length + 1
structure SeatsOk (ts : List (Int × Int)) (seats : List Int) : Prop where
  l : 1 ≤ seats.length ∧ seats.length ≤ 12
  b : ∀ s ∈ seats, 0 ≤ s ∧ s ≤ (ts.length : Int)
  lost : ∀ p : Int, 0 ≤ p → p ≤ (ts.length : Int) → p ∉ seats → 3 ≤ (ts.filter (atB p)).length
def lostF (seats : List Int) : D → Option D
  | .int i => match !(seats.any fun z => z == i) with
    | true => some (.int i)
    | false => none
  | _ => none
theorem upTo_nodup {n : Nat} : (upTo n).Nodup := by
  unfold upTo
  refine List.pairwise_map.mpr (List.nodup_range.imp fun h e => h ?_)
  exact Int.ofNat.inj e
/-! the normal tree of a family of lots -/
structure Fam (many : Nat) (ls : List (List Int)) : Prop where
  ne : ∀ l ∈ ls, l ≠ []
  nd : ls.Nodup
  el : ∀ l ∈ ls, l.Pairwise (· < ·) ∧ ∀ v ∈ l, 1 ≤ v ∧ v < (many : Int)
  lam : ∀ a ∈ ls, ∀ b ∈ ls, (∀ v, v ∈ a → v ∉ b) ∨ (∀ v ∈ a, v ∈ b) ∨ (∀ v ∈ b, v ∈ a)
  ln : ls.length ≤ 21
theorem sub_all {a b : List Int} (ha : a.Pairwise (· < ·)) (hb : b.Pairwise (· < ·)) (h : ∀ v ∈ a, v ∈ b) (hl : b.length ≤ a.length) : a = b := by
  have na : a.Nodup := ha.imp fun h => by omega
  have nb : b.Nodup := hb.imp fun h => by omega
  have g : ∀ v ∈ b, v ∈ a := fun v hv => by
    refine Classical.byContradiction fun hn => ?_
    have z := nlenT na (m := b.erase v) fun x hx => (List.mem_erase_of_ne (fun e => hn (by rw [← e]; exact hx))).mpr (h x hx)
    rw [List.length_erase_of_mem hv] at z
    have := List.length_pos_of_mem hv
    omega
  have hp : a.Perm b := (List.perm_ext_iff_of_nodup na nb).mpr fun v => ⟨h v, g v⟩
  exact List.Perm.eq_of_pairwise (le := fun x y : Int => x < y) (fun x y _ _ h1 h2 => by omega) ha hb hp
theorem Fam.lt {many : Nat} {ls : List (List Int)} (f : Fam many ls) {a b : List Int} (ha : a ∈ ls) (hb : b ∈ ls) (h : ∀ v ∈ a, v ∈ b) (hne : a ≠ b) : a.length < b.length := by
  refine Classical.byContradiction fun hn => hne (sub_all (f.el a ha).1 (f.el b hb).1 h (by omega))
def lotN (ls : List (List Int)) (i : Nat) : List Int := ls.getD i []
theorem lotN_mem {ls : List (List Int)} {i : Nat} (h : i < ls.length) : lotN ls i ∈ ls ∧ ls[i]? = some (lotN ls i) := by
  have e : ls[i]? = some (lotN ls i) := by
    unfold lotN
    rw [List.getD_eq_getElem?_getD, List.getElem?_eq_getElem h]
    rfl
  exact ⟨List.mem_of_getElem? e, e⟩
theorem lotN_inj {ls : List (List Int)} (hn : ls.Nodup) {i j : Nat} (hi : i < ls.length) (hj : j < ls.length) (h : lotN ls i = lotN ls j) : i = j := by
  have e1 := (lotN_mem hi).2
  have e2 := (lotN_mem hj).2
  rw [h] at e1
  exact (List.getElem?_inj hi hn).mp (e1.trans e2.symm)
def subB (a b : List Int) : Bool := a.all fun x => decide (x ∈ b)
theorem subB_iff {a b : List Int} : subB a b = true ↔ ∀ v ∈ a, v ∈ b := by
  unfold subB
  rw [List.all_eq_true]
  exact ⟨fun h v hv => of_decide_eq_true (h v hv), fun h v hv => decide_eq_true (h v hv)⟩
def aboveN (ls : List (List Int)) (i : Nat) : List Nat := (List.range ls.length).filter fun j => decide (j ≠ i) && subB (lotN ls i) (lotN ls j)
def ownN (ls : List (List Int)) (v : Int) : List Nat := (List.range ls.length).filter fun i => decide (v ∈ lotN ls i)
def leastN (ls : List (List Int)) (js : List Nat) : List Nat := js.filter fun j => js.all fun k => !decide ((lotN ls k).length < (lotN ls j).length)
def headN : List Nat → Nat
  | [] => 0
  | j :: _ => j + 1
theorem leastN_ex {ls : List (List Int)} : ∀ {js : List Nat}, js ≠ [] → ∃ j ∈ js, ∀ k ∈ js, (lotN ls j).length ≤ (lotN ls k).length
  | [], h => absurd rfl h
  | [j], _ => ⟨j, List.mem_singleton.mpr rfl, fun k hk => by rw [List.mem_singleton.mp hk]; exact Nat.le_refl _⟩
  | j :: j2 :: js, _ => by
    obtain ⟨m, hm, g⟩ := leastN_ex (ls := ls) (js := j2 :: js) (by simp)
    by_cases h : (lotN ls j).length ≤ (lotN ls m).length
    · refine ⟨j, List.mem_cons_self, fun k hk => ?_⟩
      rcases List.mem_cons.mp hk with rfl | hk
      · exact Nat.le_refl _
      · exact Nat.le_trans h (g k hk)
    · refine ⟨m, List.mem_cons_of_mem _ hm, fun k hk => ?_⟩
      rcases List.mem_cons.mp hk with rfl | hk
      · omega
      · exact g k hk
theorem headN_least {ls : List (List Int)} {js : List Nat} (h : js ≠ []) : ∃ j, headN (leastN ls js) = j + 1 ∧ j ∈ js ∧ ∀ k ∈ js, (lotN ls j).length ≤ (lotN ls k).length := by
  obtain ⟨m, hm, g⟩ := leastN_ex (ls := ls) h
  have hin : m ∈ leastN ls js := List.mem_filter.mpr ⟨hm, List.all_eq_true.mpr fun k hk => by
    have := g k hk
    simp only [Bool.not_eq_true', decide_eq_false_iff_not]
    omega⟩
  cases e : leastN ls js with
  | nil => rw [e] at hin; cases hin
  | cons j l =>
    have hj : j ∈ leastN ls js := by rw [e]; exact List.mem_cons_self
    obtain ⟨h1, h2⟩ := List.mem_filter.mp hj
    refine ⟨j, rfl, h1, fun k hk => ?_⟩
    have z := List.all_eq_true.mp h2 k hk
    simp only [Bool.not_eq_true', decide_eq_false_iff_not] at z
    omega
theorem headN_nil {ls : List (List Int)} : headN (leastN ls []) = 0 := rfl
def parN (ls : List (List Int)) (i : Nat) : Nat := headN (leastN ls (aboveN ls i))
def seatN (ls : List (List Int)) (v : Int) : Nat := headN (leastN ls (ownN ls v))
theorem aboveN_mem {ls : List (List Int)} {i j : Nat} : j ∈ aboveN ls i ↔ j < ls.length ∧ j ≠ i ∧ ∀ v ∈ lotN ls i, v ∈ lotN ls j := by
  unfold aboveN
  rw [List.mem_filter, List.mem_range, Bool.and_eq_true, decide_eq_true_eq, subB_iff]
theorem ownN_mem {ls : List (List Int)} {i : Nat} {v : Int} : i ∈ ownN ls v ↔ i < ls.length ∧ v ∈ lotN ls i := by
  unfold ownN
  rw [List.mem_filter, List.mem_range, decide_eq_true_eq]
/-- the parent of a lot: place 0, or a greater lot around it -/
theorem parN_up {many : Nat} {ls : List (List Int)} (f : Fam many ls) {i : Nat} (hi : i < ls.length) : parN ls i = 0 ∨ ∃ j, parN ls i = j + 1 ∧ j < ls.length ∧ (lotN ls i).length < (lotN ls j).length := by
  by_cases h : aboveN ls i = []
  · left
    unfold parN
    rw [h]
    rfl
  · obtain ⟨j, e, hj, _⟩ := headN_least (ls := ls) h
    obtain ⟨h1, h2, h3⟩ := aboveN_mem.mp hj
    exact .inr ⟨j, e, h1, f.lt (lotN_mem hi).1 (lotN_mem h1).1 h3 fun z => h2 (lotN_inj f.nd hi h1 z).symm⟩
theorem parN_le {many : Nat} {ls : List (List Int)} (f : Fam many ls) {i : Nat} (hi : i < ls.length) : parN ls i ≤ ls.length ∧ parN ls i ≠ i + 1 := by
  rcases parN_up f hi with e | ⟨j, e, hj, hl⟩
  · rw [e]
    exact ⟨Nat.zero_le _, by omega⟩
  · rw [e]
    refine ⟨hj, fun z => ?_⟩
    have : j = i := by omega
    subst this
    omega
def tieN (ls : List (List Int)) (i : Nat) : Int × Int := (((min (parN ls i) (i + 1) : Nat) : Int), ((max (parN ls i) (i + 1) : Nat) : Int))
theorem lotN_short {many : Nat} {ls : List (List Int)} (f : Fam many ls) {i : Nat} (hi : i < ls.length) : (lotN ls i).length ≤ many := by
  obtain ⟨h1, h2⟩ := f.el _ (lotN_mem hi).1
  have z := nlenT (l := lotN ls i) (m := upTo many) (h1.imp fun h => by omega) fun v hv => upTo_mem.mpr (by have := h2 v hv; omega)
  have z2 := nlenT (l := lotN ls i) (m := (upTo many).erase 0) (h1.imp fun h => by omega) fun v hv => (List.mem_erase_of_ne (by have := h2 v hv; omega)).mpr (upTo_mem.mpr (by have := h2 v hv; omega))
  rw [List.length_erase_of_mem (upTo_mem.mpr (by omega)), upTo_len] at z2
  omega
structure NormT (ls : List (List Int)) (ts : List (Int × Int)) : Prop where
  mem : ∀ t, t ∈ ts ↔ ∃ i, i < ls.length ∧ t = tieN ls i
  len : ts.length = ls.length
  ris : risL (ts.map fun t => [t.1, t.2]) = true
theorem norm_ties {many : Nat} {ls : List (List Int)} (f : Fam many ls) {ts : List (Int × Int)} (h : NormT ls ts) : TiesOk ts := by
  refine ⟨by rw [h.len]; exact f.ln, fun t ht => ?_, h.ris, fun ks vs hs => ?_⟩
  · obtain ⟨i, hi, rfl⟩ := (h.mem t).mp ht
    obtain ⟨h1, h2⟩ := parN_le f hi
    rw [h.len]
    show (0 : Int) ≤ ((min (parN ls i) (i + 1) : Nat) : Int) ∧ ((min (parN ls i) (i + 1) : Nat) : Int) < ((max (parN ls i) (i + 1) : Nat) : Int) ∧ ((max (parN ls i) (i + 1) : Nat) : Int) ≤ _
    omega
  · have z0 : (0 : Int) ∈ ks := List.mem_of_getElem? hs.i.hd
    have up : ∀ (d i : Nat), i < ls.length → many + 1 - (lotN ls i).length ≤ d → ((i + 1 : Nat) : Int) ∈ ks := by
      intro d
      induction d with
      | zero =>
        intro i hi hd
        have hb := lotN_short f hi
        omega
      | succ d ih =>
        intro i hi hd
        have ht := (h.mem (tieN ls i)).mpr ⟨i, hi, rfl⟩
        have hp : ((parN ls i : Nat) : Int) ∈ ks := by
          rcases parN_up f hi with e | ⟨j, e, hj, hl⟩
          · rw [e]; exact z0
          · rw [e]
            exact ih j hj (by have := lotN_short f hi; omega)
        have c := hs.cl _ ht
        have c' : (((min (parN ls i) (i + 1) : Nat) : Int) ∈ ks) ↔ (((max (parN ls i) (i + 1) : Nat) : Int) ∈ ks) := c
        by_cases hle : parN ls i ≤ i + 1
        · rw [Nat.min_eq_left hle, Nat.max_eq_right hle] at c'
          exact c'.mp hp
        · rw [Nat.min_eq_right (by omega), Nat.max_eq_left (by omega)] at c'
          exact c'.mpr hp
    have all : ∀ k ∈ upTo ts.length, k ∈ ks := fun k hk => by
      obtain ⟨k0, k1⟩ := upTo_mem.mp hk
      rw [h.len] at k1
      by_cases hz : k = 0
      · rw [hz]; exact z0
      · have z := up _ (k.toNat - 1) (by omega) (Nat.le_refl _)
        rw [show ((k.toNat - 1 + 1 : Nat) : Int) = k by omega] at z
        exact z
    have l1 := hs.i.few
    have l2 := nlenT upTo_nodup all
    rw [upTo_len] at l2
    omega
theorem tieN_inj {many : Nat} {ls : List (List Int)} (f : Fam many ls) {i j : Nat} (hi : i < ls.length) (hj : j < ls.length) (h : tieN ls i = tieN ls j) : i = j := by
  have e1 : ((min (parN ls i) (i + 1) : Nat) : Int) = ((min (parN ls j) (j + 1) : Nat) : Int) := congrArg Prod.fst h
  have e2 : ((max (parN ls i) (i + 1) : Nat) : Int) = ((max (parN ls j) (j + 1) : Nat) : Int) := congrArg Prod.snd h
  refine Classical.byContradiction fun hn => ?_
  have p1 : parN ls i = j + 1 := by omega
  have p2 : parN ls j = i + 1 := by omega
  rcases parN_up f hi with e | ⟨a, e, ha, hl⟩
  · omega
  · rcases parN_up f hj with e' | ⟨b, e', hb, hl'⟩
    · omega
    · have : a = j := by omega
      have : b = i := by omega
      subst a
      subst b
      omega
theorem greatest_ex {ls : List (List Int)} : ∀ {js : List Nat}, js ≠ [] → ∃ j ∈ js, ∀ k ∈ js, (lotN ls k).length ≤ (lotN ls j).length
  | [], h => absurd rfl h
  | [j], _ => ⟨j, List.mem_singleton.mpr rfl, fun k hk => by rw [List.mem_singleton.mp hk]; exact Nat.le_refl _⟩
  | j :: j2 :: js, _ => by
    obtain ⟨m, hm, g⟩ := greatest_ex (ls := ls) (js := j2 :: js) (by simp)
    by_cases h : (lotN ls m).length ≤ (lotN ls j).length
    · refine ⟨j, List.mem_cons_self, fun k hk => ?_⟩
      rcases List.mem_cons.mp hk with rfl | hk
      · exact Nat.le_refl _
      · exact Nat.le_trans (g k hk) h
    · refine ⟨m, List.mem_cons_of_mem _ hm, fun k hk => ?_⟩
      rcases List.mem_cons.mp hk with rfl | hk
      · omega
      · exact g k hk
/-- two lots with a valley in common: the shorter one lies in the other -/
theorem Fam.nest {many : Nat} {ls : List (List Int)} (f : Fam many ls) {i j : Nat} (hi : i < ls.length) (hj : j < ls.length) {v : Int} (vi : v ∈ lotN ls i) (vj : v ∈ lotN ls j) (hne : i ≠ j) :
    ((∀ v ∈ lotN ls i, v ∈ lotN ls j) ∧ (lotN ls i).length < (lotN ls j).length) ∨ ((∀ v ∈ lotN ls j, v ∈ lotN ls i) ∧ (lotN ls j).length < (lotN ls i).length) := by
  have mi := (lotN_mem hi).1
  have mj := (lotN_mem hj).1
  have ne : lotN ls i ≠ lotN ls j := fun z => hne (lotN_inj f.nd hi hj z)
  rcases f.lam _ mi _ mj with h | h | h
  · exact absurd vj (h v vi)
  · exact .inl ⟨h, f.lt mi mj h ne⟩
  · exact .inr ⟨h, f.lt mj mi h ne.symm⟩
/-- a valley that is not seated at a lot's place is in a lot whose parent that one is -/
theorem child_of {many : Nat} {ls : List (List Int)} (f : Fam many ls) {i : Nat} (hi : i < ls.length) {v : Int} (vi : v ∈ lotN ls i) (hs : seatN ls v ≠ i + 1) : ∃ c, c < ls.length ∧ c ≠ i ∧ v ∈ lotN ls c ∧ (∀ v ∈ lotN ls c, v ∈ lotN ls i) ∧ (lotN ls c).length < (lotN ls i).length ∧ parN ls c = i + 1 := by
  have hown : i ∈ ownN ls v := ownN_mem.mpr ⟨hi, vi⟩
  obtain ⟨j, ej, hj, hmin⟩ := headN_least (ls := ls) (js := ownN ls v) fun z => by rw [z] at hown; cases hown
  obtain ⟨hj1, hj2⟩ := ownN_mem.mp hj
  have hji : j ≠ i := fun z => hs (by unfold seatN; rw [ej, z])
  have hjl : (lotN ls j).length < (lotN ls i).length := by
    rcases f.nest hj1 hi hj2 vi hji with ⟨_, h⟩ | ⟨_, h⟩
    · exact h
    · have := hmin i hown
      omega
  obtain ⟨c, hc, hmax⟩ := greatest_ex (ls := ls) (js := (ownN ls v).filter fun k => decide ((lotN ls k).length < (lotN ls i).length)) fun z => by
    have : j ∈ (ownN ls v).filter fun k => decide ((lotN ls k).length < (lotN ls i).length) := List.mem_filter.mpr ⟨hj, decide_eq_true hjl⟩
    rw [z] at this
    cases this
  obtain ⟨hc1, hc2⟩ := List.mem_filter.mp hc
  obtain ⟨hcl, hcv⟩ := ownN_mem.mp hc1
  have hcs := of_decide_eq_true hc2
  have hci : c ≠ i := fun z => by rw [z] at hcs; omega
  have hsub : ∀ v ∈ lotN ls c, v ∈ lotN ls i := by
    rcases f.nest hcl hi hcv vi hci with ⟨h, _⟩ | ⟨_, h⟩
    · exact h
    · omega
  refine ⟨c, hcl, hci, hcv, hsub, hcs, ?_⟩
  have hab : i ∈ aboveN ls c := aboveN_mem.mpr ⟨hi, hci.symm, hsub⟩
  obtain ⟨p, ep, hp, hpm⟩ := headN_least (ls := ls) (js := aboveN ls c) fun z => by rw [z] at hab; cases hab
  obtain ⟨hp1, hp2, hp3⟩ := aboveN_mem.mp hp
  have hpi : p = i := by
    refine Classical.byContradiction fun hn => ?_
    have hle := hpm i hab
    have vp := hp3 v hcv
    have hlt : (lotN ls p).length < (lotN ls i).length := by
      rcases f.nest hp1 hi vp vi hn with ⟨_, h⟩ | ⟨_, h⟩
      · exact h
      · omega
    have hmx := hmax p (List.mem_filter.mpr ⟨ownN_mem.mpr ⟨hp1, vp⟩, decide_eq_true hlt⟩)
    have hcp := f.lt (lotN_mem hcl).1 (lotN_mem hp1).1 hp3 fun z => hp2 (lotN_inj f.nd hcl hp1 z).symm
    omega
  unfold parN
  rw [ep, hpi]
theorem headN_bd {js : List Nat} {n : Nat} (h : ∀ j ∈ js, j < n) : headN js ≤ n := by
  cases js with
  | nil => exact Nat.zero_le _
  | cons j l => exact h j List.mem_cons_self
def seatsN (ls : List (List Int)) (many : Nat) : List Int := (List.range many).map fun v => Int.ofNat (seatN ls (Int.ofNat v))
theorem norm_seats {many : Nat} {ls : List (List Int)} (f : Fam many ls) (h1 : 1 ≤ many) (h2 : many ≤ 12) {ts : List (Int × Int)} (h : NormT ls ts) : SeatsOk ts (seatsN ls many) := by
  refine ⟨by unfold seatsN; rw [List.length_map, List.length_range]; exact ⟨h1, h2⟩, fun s hs => ?_, fun p p0 p1 hp => ?_⟩
  · obtain ⟨v, hv, rfl⟩ := List.mem_map.mp hs
    have z : seatN ls (Int.ofNat v) ≤ ls.length := headN_bd fun j hj => (ownN_mem.mp (List.mem_filter.mp hj).1).1
    rw [h.len]
    exact ⟨Int.natCast_nonneg _, by show ((seatN ls (Int.ofNat v) : Nat) : Int) ≤ _; omega⟩
  · rw [h.len] at p1
    by_cases hz : p = 0
    · exfalso
      refine hp (List.mem_map.mpr ⟨0, List.mem_range.mpr (by omega), ?_⟩)
      have e : ownN ls (Int.ofNat 0) = [] := by
        unfold ownN
        rw [List.filter_eq_nil_iff]
        intro i hi hd
        have hv := of_decide_eq_true hd
        have := (f.el _ (lotN_mem (List.mem_range.mp hi)).1).2 _ hv
        have e0 : (Int.ofNat 0) = (0 : Int) := rfl
        omega
      unfold seatN
      rw [e, hz]
      rfl
    · obtain ⟨i, rfl⟩ : ∃ i : Nat, p = ((i + 1 : Nat) : Int) := ⟨p.toNat - 1, by omega⟩
      have hi : i < ls.length := by omega
      have ns : ∀ v ∈ lotN ls i, seatN ls v ≠ i + 1 := fun v hv z => by
        have hb := (f.el _ (lotN_mem hi).1).2 v hv
        refine hp (List.mem_map.mpr ⟨v.toNat, List.mem_range.mpr (by omega), ?_⟩)
        rw [show Int.ofNat v.toNat = v from Int.toNat_of_nonneg (by omega), z]
        rfl
      have hne := f.ne _ (lotN_mem hi).1
      obtain ⟨v0, hv0⟩ : ∃ v, v ∈ lotN ls i := by
        cases e : lotN ls i with
        | nil => exact absurd e hne
        | cons a l => exact ⟨a, List.mem_cons_self⟩
      obtain ⟨c0, k1, k2, k3, k4, k5, k6⟩ := child_of f hi hv0 (ns v0 hv0)
      obtain ⟨w, hw, hwn⟩ : ∃ w, w ∈ lotN ls i ∧ w ∉ lotN ls c0 := by
        refine Classical.byContradiction fun hn => ?_
        have hall : ∀ w ∈ lotN ls i, w ∈ lotN ls c0 := fun w hw => Classical.byContradiction fun hx => hn ⟨w, hw, hx⟩
        have := nlenT ((f.el _ (lotN_mem hi).1).1.imp fun h => by omega) hall
        omega
      obtain ⟨c1, g1, g2, g3, g4, g5, g6⟩ := child_of f hi hw (ns w hw)
      have c01 : c0 ≠ c1 := fun z => hwn (by rw [z]; exact g3)
      have t0 : tieN ls i ∈ ts.filter (atB ((i + 1 : Nat) : Int)) := List.mem_filter.mpr ⟨(h.mem _).mpr ⟨i, hi, rfl⟩, decide_eq_true (by
        show ((min (parN ls i) (i + 1) : Nat) : Int) = _ ∨ ((max (parN ls i) (i + 1) : Nat) : Int) = _
        omega)⟩
      have tc : ∀ c, c < ls.length → parN ls c = i + 1 → tieN ls c ∈ ts.filter (atB ((i + 1 : Nat) : Int)) := fun c hc e => List.mem_filter.mpr ⟨(h.mem _).mpr ⟨c, hc, rfl⟩, decide_eq_true (by
        show ((min (parN ls c) (c + 1) : Nat) : Int) = _ ∨ ((max (parN ls c) (c + 1) : Nat) : Int) = _
        omega)⟩
      have z := nlenT (l := [tieN ls i, tieN ls c0, tieN ls c1]) (m := ts.filter (atB ((i + 1 : Nat) : Int))) ?_ fun x hx => ?_
      · exact z
      · simp only [List.nodup_cons, List.mem_cons, List.not_mem_nil, or_false, not_or, not_false_eq_true, List.nodup_nil, and_true]
        exact ⟨⟨fun e => k2 (tieN_inj f hi k1 e).symm, fun e => g2 (tieN_inj f hi g1 e).symm⟩, fun e => c01 (tieN_inj f k1 g1 e)⟩
      · simp only [List.mem_cons, List.not_mem_nil, or_false] at hx
        rcases hx with rfl | rfl | rfl
        · exact t0
        · exact tc c0 k1 k6
        · exact tc c1 g1 g6
/-! partings judged -/
/-- not long, nor any part of it -/
def short2 : D → Bool
  | .tup xs => decide (xs.length ≤ 50) && xs.all shortD
  | .lst xs => decide (xs.length ≤ 50)
  | _ => true
def noX (ls : List (List Int)) : Bool := (pairsL ls).all fun q => !crossB q.1 q.2
def partsB (m : Int) : D → Bool
  | .tup xs => xs.all (lotB2 1 (m - 1)) && (risL (xs.map intsD) && noX (xs.map intsD))
  | _ => false
def fallL : D → Bool
  | .tup [.tup xs, .tup ys] => !SCo.ltI (intsOf xs) (intsOf ys)
  | _ => true
theorem fallL_all {ls : List (List Int)} : ((ls.zip (ls.drop 1)).map fun p => D.tup [tupI p.1, tupI p.2]).all (fun d => !fallL d) = risL ls := by
  unfold risL
  rw [List.all_map]
  refine congrArg (fun f => (ls.zip (ls.drop 1)).all f) (funext fun p => ?_)
  show (!!SCo.ltI (intsOf (p.1.map D.int)) (intsOf (p.2.map D.int))) = SCo.ltI p.1 p.2
  rw [intsOf_map, intsOf_map, Bool.not_not]
def parD (ls : List (List Int)) (i : Nat) : D := .tup [.int ((parN ls i : Nat) : Int), .int ((i : Int) + 1)]
def natD (k : Nat) : D := .int ((k : Nat) : Int)
def abvB (ls : List (List Int)) (i j : Nat) : Bool := decide (j ≠ i) && subB (lotN ls i) (lotN ls j)
theorem range_filter_no {p : Nat → Bool} {j : Nat} (h : p j = false) : (List.range (j + 1)).filter p = (List.range j).filter p := by
  rw [List.range_succ, List.filter_append, List.filter_cons, h]
  simp
theorem range_filter_yes {p : Nat → Bool} {j : Nat} (h : p j = true) : (List.range (j + 1)).filter p = (List.range j).filter p ++ [j] := by
  rw [List.range_succ, List.filter_append, List.filter_cons, h]
  rfl
def notInB (ys : List Int) : D → Bool
  | .int v => !decide (v ∈ ys)
  | _ => true
theorem any_notIn {ys : List Int} {v : Int} : (!ys.any fun x => x == v) = !decide (v ∈ ys) := by
  congr 1
  by_cases h : v ∈ ys
  · rw [decide_eq_true h, List.any_eq_true]
    exact ⟨v, h, by simp⟩
  · rw [decide_eq_false h, List.any_eq_false]
    intro x hx he
    have : x = v := by simpa using he
    exact h (by rw [← this]; exact hx)
theorem notIn_all {xs ys : List Int} : ((xs.map D.int).all fun x => !notInB ys x) = subB xs ys := by
  unfold subB
  rw [List.all_map]
  refine congrArg (fun f => xs.all f) (funext fun v => ?_)
  show (!!decide (v ∈ ys)) = _
  rw [Bool.not_not]
def leastB (ls : List (List Int)) (js : List Nat) (j : Nat) : Bool := js.all fun k => !decide ((lotN ls k).length < (lotN ls j).length)
def leastF (ls : List (List Int)) (js : List Nat) : D → Option D
  | .int j => match leastB ls js j.toNat with
    | true => some (.int j)
    | false => none
  | _ => none
theorem leastF_map {ls : List (List Int)} {ab : List Nat} : ∀ {js : List Nat}, (js.map natD).filterMap (leastF ls ab) = (js.filter (leastB ls ab)).map natD
  | [] => rfl
  | j :: js => by
    have ih := leastF_map (ls := ls) (ab := ab) (js := js)
    rw [List.map_cons, List.filterMap_cons, List.filter_cons]
    cases h : leastB ls ab j with
    | true =>
      have e : leastF ls ab (natD j) = some (natD j) := by
        show (match leastB ls ab j with | true => some (natD j) | false => none) = _
        rw [h]
      rw [e, ih]
      rfl
    | false =>
      have e : leastF ls ab (natD j) = none := by
        show (match leastB ls ab j with | true => some (natD j) | false => none) = _
        rw [h]
      rw [e, ih]
      rfl
def shortB (ls : List (List Int)) (j : Nat) : D → Bool
  | .int k => decide ((lotN ls k.toNat).length < (lotN ls j).length)
  | _ => true
theorem short_all {ls : List (List Int)} {j : Nat} {ab : List Nat} : ((ab.map natD).all fun x => !shortB ls j x) = leastB ls ab j := by
  unfold leastB
  rw [List.all_map]
  rfl
def seatD (ls : List (List Int)) (v : Nat) : D := .int ((seatN ls (Int.ofNat v) : Nat) : Int)
def ownF (v : Int) : D → Option D
  | .tup [.int i, .tup xs] => match decide (v ∈ intsOf xs) with
    | true => some (.int i)
    | false => none
  | _ => none
theorem any_in {ys : List Int} {v : Int} : (ys.any fun x => x == v) = decide (v ∈ ys) := by
  have z := any_notIn (ys := ys) (v := v)
  cases e : (ys.any fun x => x == v) <;> cases e2 : decide (v ∈ ys) <;> simp_all
theorem enum_lots {ls : List (List Int)} {x : D} (h : x ∈ enumD 0 (ls.map tupI)) : ∃ j : Nat, j < ls.length ∧ x = .tup [.int (j : Nat), .tup ((lotN ls j).map D.int)] := by
  obtain ⟨i, e⟩ := List.mem_iff_getElem?.mp h
  obtain ⟨hi, _⟩ := List.getElem?_eq_some_iff.mp e
  rw [enumD_len, List.length_map] at hi
  refine ⟨i, hi, ?_⟩
  rw [enumD_get, List.getElem?_map, (lotN_mem hi).2, Option.map_some, Option.map_some, Option.some.injEq, Nat.zero_add] at e
  exact e.symm
theorem ownF_gen {v : Int} : ∀ (ls : List (List Int)) (k : Nat), (enumD k (ls.map tupI)).filterMap (ownF v) = ((List.range ls.length).filter fun i => decide (v ∈ lotN ls i)).map fun i => natD (k + i)
  | [], _ => rfl
  | l :: ls, k => by
    have ih := ownF_gen (v := v) ls (k + 1)
    show (D.tup [.int (k : Nat), tupI l] :: enumD (k + 1) (ls.map tupI)).filterMap (ownF v) = _
    rw [List.filterMap_cons, List.length_cons, List.range_succ_eq_map, List.filter_cons]
    have hf : ((List.range ls.length).map Nat.succ).filter (fun i => decide (v ∈ lotN (l :: ls) i)) = ((List.range ls.length).filter fun i => decide (v ∈ lotN ls i)).map Nat.succ := by
      rw [List.filter_map]
      rfl
    rw [hf]
    have hm : (((List.range ls.length).filter fun i => decide (v ∈ lotN ls i)).map Nat.succ).map (fun i => natD (k + i)) = ((List.range ls.length).filter fun i => decide (v ∈ lotN ls i)).map fun i => natD (k + 1 + i) := by
      rw [List.map_map]
      refine List.map_congr_left fun i _ => ?_
      show natD (k + (i + 1)) = natD (k + 1 + i)
      rw [show k + (i + 1) = k + 1 + i by omega]
    have h0 : lotN (l :: ls) 0 = l := rfl
    have e0 : ownF v (D.tup [.int (k : Nat), tupI l]) = match decide (v ∈ l) with | true => some (natD k) | false => none := by
      show (match decide (v ∈ intsOf (l.map D.int)) with | true => some (natD k) | false => none) = _
      rw [intsOf_map]
    rw [e0, h0]
    cases e : decide (v ∈ l) with
    | true =>
      rw [if_pos rfl, List.map_cons, hm, ← ih]
      rfl
    | false =>
      rw [if_neg (by simp), hm, ← ih]
theorem ownF_map {v : Int} {ls : List (List Int)} : (enumD 0 (ls.map tupI)).filterMap (ownF v) = (ownN ls v).map natD := by
  rw [ownF_gen]
  unfold ownN
  refine List.map_congr_left fun i _ => ?_
  rw [Nat.zero_add]
def mmF : D → D
  | .tup [.int i, .int j] => .tup [.int (min i j), .int (max i j)]
  | _ => .non
def tieL (ls : List (List Int)) (i : Nat) : List Int := [(tieN ls i).1, (tieN ls i).2]
def rawT (ls : List (List Int)) : List (List Int) := (List.range ls.length).map (tieL ls)
theorem mmF_at {ls : List (List Int)} {i : Nat} : mmF (parD ls i) = tupI (tieL ls i) := by
  show D.tup [.int (min ((parN ls i : Nat) : Int) ((i : Int) + 1)), .int (max ((parN ls i : Nat) : Int) ((i : Int) + 1))] = D.tup [.int (((min (parN ls i) (i + 1) : Nat) : Int)), .int (((max (parN ls i) (i + 1) : Nat) : Int))]
  rw [show min ((parN ls i : Nat) : Int) ((i : Int) + 1) = ((min (parN ls i) (i + 1) : Nat) : Int) by omega, show max ((parN ls i : Nat) : Int) ((i : Int) + 1) = ((max (parN ls i) (i + 1) : Nat) : Int) by omega]
def sortT (ls : List (List Int)) : List (Int × Int) := (sortL (rawT ls)).map fun l => (l.getD 0 0, l.getD 1 0)
theorem risL_of : ∀ {nss : List (List Int)}, nss.Pairwise (· < ·) → risL nss = true
  | [], _ => rfl
  | [_], _ => rfl
  | a :: b :: l, h => by
    obtain ⟨h1, h2⟩ := List.pairwise_cons.mp h
    have z := risL_of h2
    have e : risL (a :: b :: l) = (SCo.ltI a b && risL (b :: l)) := rfl
    rw [e, z, Bool.and_true]
    exact decide_eq_true (h1 b List.mem_cons_self)
theorem sortL_lt {nss : List (List Int)} (h : nss.Nodup) : (sortL nss).Pairwise (· < ·) := by
  have z := List.pairwise_mergeSort (le := fun a b : List Int => !SCo.ltI b a) (fun a b c h1 h2 => ?_) (fun a b => ?_) nss
  · have hn : (sortL nss).Nodup := (sortL_perm nss).nodup_iff.mpr h
    refine (z.and hn).imp fun hab => ?_
    obtain ⟨h1, h2⟩ := hab
    simp only [SCo.ltI, Bool.not_eq_true', decide_eq_false_iff_not] at h1
    refine Classical.byContradiction fun hn => h2 ?_
    exact List.le_antisymm h1 hn
  · simp only [SCo.ltI, Bool.not_eq_true', decide_eq_false_iff_not] at h1 h2 ⊢
    exact fun h3 => h2 (Std.lt_of_lt_of_le h3 h1)
  · simp only [SCo.ltI, Bool.or_eq_true, Bool.not_eq_true', decide_eq_false_iff_not]
    exact List.le_total a b
theorem rawT_nodup {many : Nat} {ls : List (List Int)} (f : Fam many ls) : (rawT ls).Nodup := by
  unfold rawT
  refine List.pairwise_map.mpr ?_
  rw [List.pairwise_iff_getElem]
  intro i j hi hj hij e
  rw [List.length_range] at hi hj
  rw [List.getElem_range, List.getElem_range] at e
  unfold tieL at e
  simp only [List.cons.injEq, and_true] at e
  have := tieN_inj f hi hj (Prod.ext e.1 e.2)
  omega
theorem norm_sort {many : Nat} {ls : List (List Int)} (f : Fam many ls) : NormT ls (sortT ls) := by
  have hm : ∀ l, l ∈ sortL (rawT ls) ↔ ∃ i, i < ls.length ∧ l = tieL ls i := fun l => by
    rw [(sortL_perm _).mem_iff]
    unfold rawT
    rw [List.mem_map]
    constructor
    · rintro ⟨i, hi, e⟩
      exact ⟨i, List.mem_range.mp hi, e.symm⟩
    · rintro ⟨i, hi, e⟩
      exact ⟨i, List.mem_range.mpr hi, e.symm⟩
  refine ⟨fun t => ?_, ?_, ?_⟩
  · unfold sortT
    rw [List.mem_map]
    constructor
    · rintro ⟨l, hl, rfl⟩
      obtain ⟨i, hi, rfl⟩ := (hm l).mp hl
      exact ⟨i, hi, rfl⟩
    · rintro ⟨i, hi, rfl⟩
      exact ⟨_, (hm _).mpr ⟨i, hi, rfl⟩, rfl⟩
  · unfold sortT
    rw [List.length_map, (sortL_perm _).length_eq]
    unfold rawT
    rw [List.length_map, List.length_range]
  · have e : (sortT ls).map (fun t => [t.1, t.2]) = sortL (rawT ls) := by
      unfold sortT
      rw [List.map_map]
      refine (List.map_congr_left fun l hl => ?_).trans (List.map_id _)
      obtain ⟨i, _, rfl⟩ := (hm l).mp hl
      rfl
    rw [e]
    exact risL_of (sortL_lt (rawT_nodup f))
theorem rangeA_len {a : Int} {k : Nat} : (rangeD a k).length = k := by
  simp [rangeD]
theorem toP_tupsT (nss : List (List Int)) : toP (.tup (nss.map tupI)) = some (.tuple (nss.map dT)) := by
  show (toPs (nss.map tupI)).map PyData.tuple = _
  rw [toPs_tups]
  rfl
theorem shaped_tupsT (nss : List (List Int)) : SeqAt.shaped (.tuple (nss.map dT)) = true := shaped_tups nss
theorem cut_sub {xs : List D} {lo hi : Option Int} : (cutD xs lo hi).Sublist xs := (List.take_sublist _ _).trans (List.drop_sublist _ _)
theorem cut_mem {xs : List D} {lo hi : Option Int} {x : D} (h : x ∈ cutD xs lo hi) : x ∈ xs := cut_sub.subset h
theorem cut_len {xs : List D} {lo hi : Option Int} : (cutD xs lo hi).length ≤ xs.length := cut_sub.length_le
/-! drawn families -/
def Dj (a b : List Int) : Prop := ∀ v, v ∈ a → v ∉ b
theorem Dj.symm {a b : List Int} (h : Dj a b) : Dj b a := fun v hb ha => h v ha hb
def OkL (many : Nat) (l : List Int) : Prop := l ≠ [] ∧ l.Pairwise (· < ·) ∧ ∀ v ∈ l, 1 ≤ v ∧ v < (many : Int)
theorem okL_len {many : Nat} {l : List Int} (h : OkL many l) : l.length ≤ many := by
  have z := nlenT (l := l) (m := (upTo many).erase 0) (h.2.1.imp fun h => by omega) fun v hv => (List.mem_erase_of_ne (by have := h.2.2 v hv; omega)).mpr (upTo_mem.mpr (by have := h.2.2 v hv; omega))
  rw [List.length_erase_of_mem (upTo_mem.mpr (by omega)), upTo_len] at z
  omega
structure PartI (many : Nat) (L Fd : List (List Int)) (t : Nat) : Prop where
  ll : L.length + t = many - 1
  bs : ∀ l ∈ L, OkL many l
  dj : L.Pairwise Dj
  fs : ∀ f ∈ Fd, OkL many f ∧ ∃ b ∈ L, ∀ v ∈ f, v ∈ b
  nd : Fd.Nodup
  lam : ∀ a ∈ Fd, ∀ b ∈ Fd, (∀ v, v ∈ a → v ∉ b) ∨ (∀ v ∈ a, v ∈ b) ∨ (∀ v ∈ b, v ∈ a)
  fl : Fd.length ≤ many - 1 + t
theorem PartI.fam {many t : Nat} {L Fd : List (List Int)} (h : PartI many L Fd t) (h2 : many ≤ 12) (ht : t ≤ many - 2) : Fam many Fd :=
  ⟨fun l hl => (h.fs l hl).1.1, h.nd, fun l hl => (h.fs l hl).1.2, h.lam, by have := h.fl; omega⟩
def ones1 (many : Nat) : List (List Int) := (List.range (many - 1)).map fun i => [Int.ofNat (i + 1)]
theorem ones1_nodup {many : Nat} : (ones1 many).Pairwise Dj := by
  unfold ones1
  refine List.pairwise_map.mpr (List.nodup_range.imp fun h v h1 h2 => h ?_)
  rw [List.mem_singleton] at h1 h2
  rw [h1] at h2
  have := Int.ofNat.inj h2
  omega
theorem partI_start {many : Nat} {Fd : List (List Int)} (h : Fd.Sublist (ones1 many)) : PartI many (ones1 many) Fd 0 := by
  have bs : ∀ l ∈ ones1 many, OkL many l := fun l hl => by
    obtain ⟨i, hi, rfl⟩ := List.mem_map.mp hl
    have := List.mem_range.mp hi
    refine ⟨by simp, List.pairwise_singleton _ _, fun v hv => ?_⟩
    rw [List.mem_singleton.mp hv]
    show (1 : Int) ≤ ((i + 1 : Nat) : Int) ∧ ((i + 1 : Nat) : Int) < many
    omega
  have dj := ones1_nodup (many := many)
  have hlen : (ones1 many).length = many - 1 := by unfold ones1; rw [List.length_map, List.length_range]
  refine ⟨by omega, bs, dj, fun f hf => ⟨bs f (h.subset hf), f, h.subset hf, fun v hv => hv⟩, ?_, fun a ha b hb => ?_, by have := h.length_le; omega⟩
  · refine List.Sublist.nodup h ?_
    refine List.Pairwise.imp_of_mem (fun {a b} ha _ hab e => ?_) dj
    obtain ⟨i, _, rfl⟩ := List.mem_map.mp ha
    exact hab _ List.mem_cons_self (by rw [← e]; exact List.mem_cons_self)
  · obtain ⟨i, _, rfl⟩ := List.mem_map.mp (h.subset ha)
    obtain ⟨j, _, rfl⟩ := List.mem_map.mp (h.subset hb)
    by_cases hij : i = j
    · subst hij
      exact .inr (.inl fun v hv => hv)
    · refine .inl fun v h1 h2 => hij ?_
      rw [List.mem_singleton] at h1 h2
      rw [h1] at h2
      have := Int.ofNat.inj h2
      omega
/-- two blocks are put together; the new lot is put down, or not -/
theorem partI_step {many t : Nat} {L L3 Fd Fd2 : List (List Int)} {one other lot : List Int} (h : PartI many L Fd t) (hp : (one :: other :: L3).Perm L) (hm : lot.Pairwise (· < ·)) (hl : ∀ v, v ∈ lot ↔ v ∈ one ∨ v ∈ other) (hf : Fd2 = Fd ∨ Fd2 = Fd ++ [lot]) : PartI many (L3 ++ [lot]) Fd2 (t + 1) := by
  have dj : (one :: other :: L3).Pairwise Dj := (hp.pairwise_iff fun h => Dj.symm h).mpr h.dj
  obtain ⟨d1, d2⟩ := List.pairwise_cons.mp dj
  obtain ⟨d3, d4⟩ := List.pairwise_cons.mp d2
  have bs : ∀ l ∈ one :: other :: L3, OkL many l := fun l hl => h.bs l (hp.mem_iff.mp hl)
  have o1 := bs one List.mem_cons_self
  have o2 := bs other (List.mem_cons_of_mem _ List.mem_cons_self)
  have ol : OkL many lot := by
    refine ⟨fun z => ?_, hm, fun v hv => ?_⟩
    · cases e : one with
      | nil => exact o1.1 e
      | cons a l =>
        have := (hl a).mpr (.inl (by rw [e]; exact List.mem_cons_self))
        rw [z] at this
        cases this
    · rcases (hl v).mp hv with hv | hv
      · exact o1.2.2 v hv
      · exact o2.2.2 v hv
  have hlen := hp.length_eq
  simp only [List.length_cons] at hlen
  -- where an old lot lies now
  have old : ∀ f ∈ Fd, (∀ v ∈ f, v ∈ lot) ∨ ((∃ b ∈ L3, ∀ v ∈ f, v ∈ b) ∧ Dj f lot) := fun f hf => by
    obtain ⟨b, hb, hs⟩ := (h.fs f hf).2
    rcases List.mem_cons.mp (hp.mem_iff.mpr hb) with rfl | hb
    · exact .inl fun v hv => (hl v).mpr (.inl (hs v hv))
    rcases List.mem_cons.mp hb with rfl | hb
    · exact .inl fun v hv => (hl v).mpr (.inr (hs v hv))
    · refine .inr ⟨⟨b, hb, hs⟩, fun v hv hv2 => ?_⟩
      rcases (hl v).mp hv2 with hv2 | hv2
      · exact d1 b (List.mem_cons_of_mem _ hb) v hv2 (hs v hv)
      · exact d3 b hb v hv2 (hs v hv)
  have fresh : lot ∉ Fd := fun hin => by
    obtain ⟨b, hb, hs⟩ := (h.fs lot hin).2
    obtain ⟨x, hx⟩ : ∃ x, x ∈ one := by
      cases e : one with
      | nil => exact absurd e o1.1
      | cons a l => exact ⟨a, List.mem_cons_self⟩
    obtain ⟨y, hy⟩ : ∃ y, y ∈ other := by
      cases e : other with
      | nil => exact absurd e o2.1
      | cons a l => exact ⟨a, List.mem_cons_self⟩
    have bx := hs x ((hl x).mpr (.inl hx))
    have bY := hs y ((hl y).mpr (.inr hy))
    rcases List.mem_cons.mp (hp.mem_iff.mpr hb) with rfl | hb
    · exact d1 other List.mem_cons_self y bY hy
    rcases List.mem_cons.mp hb with rfl | hb
    · exact d1 _ List.mem_cons_self x hx bx
    · exact d1 b (List.mem_cons_of_mem _ hb) x hx bx
  have base : PartI many (L3 ++ [lot]) Fd (t + 1) := by
    refine ⟨by rw [List.length_append]; simp only [List.length_cons, List.length_nil]; have := h.ll; omega, fun l hl => ?_, ?_, fun f hf => ⟨(h.fs f hf).1, ?_⟩, h.nd, h.lam, by have := h.fl; omega⟩
    · rcases List.mem_append.mp hl with hl | hl
      · exact bs l (List.mem_cons_of_mem _ (List.mem_cons_of_mem _ hl))
      · rw [List.mem_singleton.mp hl]; exact ol
    · rw [List.pairwise_append]
      refine ⟨d4, List.pairwise_singleton _ _, fun a ha b hb v hv hv2 => ?_⟩
      rw [List.mem_singleton.mp hb] at hv2
      rcases (hl v).mp hv2 with hv2 | hv2
      · exact d1 a (List.mem_cons_of_mem _ ha) v hv2 hv
      · exact d3 a ha v hv2 hv
    · rcases old f hf with h1 | ⟨⟨b, hb, hs⟩, _⟩
      · exact ⟨lot, List.mem_append_right _ (List.mem_singleton.mpr rfl), h1⟩
      · exact ⟨b, List.mem_append_left _ hb, hs⟩
  rcases hf with rfl | rfl
  · exact base
  · refine ⟨base.ll, base.bs, base.dj, fun f hf => ?_, ?_, fun a ha b hb => ?_, by rw [List.length_append]; simp only [List.length_cons, List.length_nil]; have := h.fl; omega⟩
    · rcases List.mem_append.mp hf with hf | hf
      · exact base.fs f hf
      · rw [List.mem_singleton.mp hf]
        exact ⟨ol, lot, List.mem_append_right _ (List.mem_singleton.mpr rfl), fun v hv => hv⟩
    · rw [List.nodup_append]
      exact ⟨h.nd, by simp, fun a ha b hb e => by rw [List.mem_singleton.mp hb] at e; exact fresh (by rw [← e]; exact ha)⟩
    · rcases List.mem_append.mp ha with ha | ha
      · rcases List.mem_append.mp hb with hb | hb
        · exact h.lam a ha b hb
        · rw [List.mem_singleton.mp hb]
          rcases old a ha with h1 | ⟨_, h1⟩
          · exact .inr (.inl h1)
          · exact .inl h1
      · rw [List.mem_singleton.mp ha]
        rcases List.mem_append.mp hb with hb | hb
        · rcases old b hb with h1 | ⟨_, h1⟩
          · exact .inr (.inr h1)
          · exact .inl fun v hv hv2 => h1 v hv2 hv
        · rw [List.mem_singleton.mp hb]
          exact .inr (.inl fun v hv => hv)
theorem ones1_D {many : Nat} (h : 1 ≤ many) : (rangeD 1 ((many : Int) - 1).toNat).map oneT = (ones1 many).map tupI := by
  have e : ((many : Int) - 1).toNat = many - 1 := by omega
  rw [e]
  unfold rangeD ones1
  rw [List.map_map, List.map_map]
  refine List.map_congr_left fun i _ => ?_
  show D.tup [.int (1 + (i : Int))] = D.tup [.int ((i + 1 : Nat) : Int)]
  rw [show (1 : Int) + (i : Int) = ((i + 1 : Nat) : Int) by omega]
theorem erase_map : ∀ {L : List (List Int)} {a : Nat}, (L.map tupI).eraseIdx a = (L.eraseIdx a).map tupI
  | [], _ => by simp
  | l :: L, 0 => by simp
  | l :: L, a + 1 => by
    show tupI l :: (L.map tupI).eraseIdx a = tupI l :: (L.eraseIdx a).map tupI
    rw [erase_map]
theorem Fam.perm {many : Nat} {ls ms : List (List Int)} (f : Fam many ls) (h : ms.Perm ls) : Fam many ms :=
  ⟨fun l hl => f.ne l (h.mem_iff.mp hl), h.nodup_iff.mpr f.nd, fun l hl => f.el l (h.mem_iff.mp hl), fun a ha b hb => f.lam a (h.mem_iff.mp ha) b (h.mem_iff.mp hb), by rw [h.length_eq]; exact f.ln⟩
theorem risB_of : ∀ {ns : List Int}, ns.Pairwise (· < ·) → risB ns = true
  | [], _ => rfl
  | [_], _ => rfl
  | a :: b :: l, h => by
    rw [List.pairwise_cons] at h
    have h1 := h.1 b List.mem_cons_self
    have h2 := risB_of h.2
    simp only [risB, Bool.and_eq_true, decide_eq_true_eq]
    exact ⟨h1, h2⟩
/-! the one way between two places of a tree -/
def Adj (ts : List (Int × Int)) (a b : Int) : Prop := (a, b) ∈ ts ∨ (b, a) ∈ ts
theorem Adj.symm {ts : List (Int × Int)} {a b : Int} (h : Adj ts a b) : Adj ts b a := Or.symm h
def AdjL (ts : List (Int × Int)) : List Int → Prop
  | [] => True
  | [_] => True
  | a :: b :: l => Adj ts a b ∧ AdjL ts (b :: l)
theorem adj_split {ts : List (Int × Int)} : ∀ {l : List Int} {a : Int} {r : List Int}, AdjL ts (l ++ a :: r) ↔ AdjL ts (l ++ [a]) ∧ AdjL ts (a :: r)
  | [], a, r => ⟨fun h => ⟨trivial, h⟩, fun h => h.2⟩
  | [x], a, r => ⟨fun h => ⟨⟨h.1, trivial⟩, h.2⟩, fun h => ⟨h.1.1, h.2⟩⟩
  | x :: y :: l, a, r => by
    have ih := adj_split (ts := ts) (l := y :: l) (a := a) (r := r)
    constructor
    · rintro ⟨h1, h2⟩
      have z := ih.mp h2
      exact ⟨⟨h1, z.1⟩, z.2⟩
    · rintro ⟨⟨h1, h2⟩, h3⟩
      exact ⟨h1, ih.mpr ⟨h2, h3⟩⟩
theorem adj_rev {ts : List (Int × Int)} : ∀ {l : List Int}, AdjL ts l → AdjL ts l.reverse
  | [], _ => trivial
  | [_], _ => trivial
  | a :: b :: l, h => by
    have ih := adj_rev (ts := ts) (l := b :: l) h.2
    rw [List.reverse_cons] at ih ⊢
    rw [List.reverse_cons, List.append_assoc]
    exact adj_split.mpr ⟨ih, ⟨h.1.symm, trivial⟩⟩
structure Way (ts : List (Int × Int)) (a b : Int) (xs : List Int) : Prop where
  hd : xs.head? = some a
  lt : xs.getLast? = some b
  nd : xs.Nodup
  adj : AdjL ts xs
theorem Way.rev {ts : List (Int × Int)} {a b : Int} {xs : List Int} (w : Way ts a b xs) : Way ts b a xs.reverse :=
  ⟨by rw [List.head?_reverse]; exact w.lt, by rw [List.getLast?_reverse]; exact w.hd, (List.reverse_perm xs).nodup_iff.mpr w.nd, adj_rev w.adj⟩
/-- each tie leads from a place to the next one on the way to a goal -/
structure Toward (ts : List (Int × Int)) (g : Int) (s : Int → Int) : Prop where
  tie : ∀ t ∈ ts, ∃ k, k ≠ g ∧ (t = (k, s k) ∨ t = (s k, k))
theorem Toward.adj {ts : List (Int × Int)} {g : Int} {s : Int → Int} (h : Toward ts g s) {a b : Int} (e : Adj ts a b) : (a ≠ g ∧ s a = b) ∨ (b ≠ g ∧ s b = a) := by
  rcases e with e | e
  · obtain ⟨k, kg, z | z⟩ := h.tie _ e
    · cases z; exact .inl ⟨kg, rfl⟩
    · cases z; exact .inr ⟨kg, rfl⟩
  · obtain ⟨k, kg, z | z⟩ := h.tie _ e
    · cases z; exact .inr ⟨kg, rfl⟩
    · cases z; exact .inl ⟨kg, rfl⟩
theorem steps_ex {ts : List (Int × Int)} {g : Int} (hb : ∀ t ∈ ts, 0 ≤ t.1 ∧ t.1 < t.2 ∧ t.2 ≤ (ts.length : Int)) : ∀ (m : Nat) {ks vs : List Int}, StepI ts g ks vs [] → ts.length + 1 - ks.length ≤ m → ∃ ks vs, StepsOk ts g ks vs := by
  intro m
  induction m with
  | zero =>
    intro ks vs h hm
    refine ⟨ks, vs, h, fun t ht => ?_⟩
    have hf := h.few
    have all : ∀ k, 0 ≤ k → k ≤ (ts.length : Int) → k ∈ ks := fun k k0 k1 => by
      refine Classical.byContradiction fun hn => ?_
      have z := nlenT (l := k :: ks) (m := upTo ts.length) (List.nodup_cons.mpr ⟨hn, h.nd⟩) fun x hx => by
        rcases List.mem_cons.mp hx with rfl | hx
        · exact upTo_mem.mpr ⟨k0, k1⟩
        · exact upTo_mem.mpr (h.rng x hx)
      rw [upTo_len, List.length_cons] at z
      omega
    have b := hb t ht
    exact ⟨fun _ => all _ (by omega) (by omega), fun _ => all _ (by omega) (by omega)⟩
  | succ m ih =>
    intro ks vs h hm
    by_cases hc : ∀ t ∈ ts, (t.1 ∈ ks ↔ t.2 ∈ ks)
    · exact ⟨ks, vs, h, hc⟩
    · obtain ⟨t, ht, hn⟩ : ∃ t, t ∈ ts ∧ ¬ (t.1 ∈ ks ↔ t.2 ∈ ks) := by
        refine Classical.byContradiction fun hx => hc fun t ht => ?_
        exact Classical.byContradiction fun hy => hx ⟨t, ht, hy⟩
      have b := hb t ht
      have drop : ∀ {ks vs st : List Int}, StepI ts g ks vs st → StepI ts g ks vs [] := fun h => ⟨h.nd, h.ln, h.hd, h.hv, h.rng, fun s hs => (nomatch hs), List.nodup_nil, h.back⟩
      by_cases h1 : t.1 ∈ ks
      · have h2 : t.2 ∉ ks := fun h2 => hn ⟨fun _ => h2, fun _ => h1⟩
        exact ih (drop (stepI_add h h1 h2 (.inr ht) (by omega) (by omega))) (by rw [List.length_append]; simp only [List.length_cons, List.length_nil]; omega)
      · have h2 : t.2 ∈ ks := Classical.byContradiction fun h2 => hn ⟨fun z => absurd z h1, fun z => absurd z h2⟩
        exact ih (drop (stepI_add h h2 h1 (.inl ht) (by omega) (by omega))) (by rw [List.length_append]; simp only [List.length_cons, List.length_nil]; omega)
theorem full_in {ts : List (Int × Int)} {g : Int} {ks vs : List Int} (h : StepI ts g ks vs []) (hl : ks.length = ts.length + 1) {k : Int} (k0 : 0 ≤ k) (k1 : k ≤ (ts.length : Int)) : k ∈ ks := by
  refine Classical.byContradiction fun hn => ?_
  have z := nlenT (l := k :: ks) (m := upTo ts.length) (List.nodup_cons.mpr ⟨hn, h.nd⟩) fun x hx => by
    rcases List.mem_cons.mp hx with rfl | hx
    · exact upTo_mem.mpr ⟨k0, k1⟩
    · exact upTo_mem.mpr (h.rng x hx)
  rw [upTo_len, List.length_cons] at z
  omega
theorem conn_any {ts : List (Int × Int)} (t : TiesOk ts) {g : Int} {ks vs : List Int} (h : StepsOk ts g ks vs) : ks.length = ts.length + 1 := by
  obtain ⟨k0, v0, h0⟩ := steps_ex t.b _ (stepI_start (ts := ts) (goal := 0) (by omega) (by omega) |> fun h => (⟨h.nd, h.ln, h.hd, h.hv, h.rng, fun s hs => (nomatch hs), List.nodup_nil, h.back⟩ : StepI ts 0 [0] [0] [])) (Nat.le_refl _)
  have l0 := t.conn _ _ h0
  have gm : g ∈ ks := List.mem_of_getElem? h.i.hd
  have gr := h.i.rng g gm
  have back : ∀ i : Nat, 1 ≤ i → ∀ k, k0[i]? = some k → ∃ j v, j < i ∧ k0[j]? = some v ∧ (v ∈ ks ↔ k ∈ ks) := fun i hi k hk => by
    have hlt : i < v0.length := by rw [h0.i.ln]; exact (List.getElem?_eq_some_iff.mp hk).1
    obtain ⟨ha, j, hj, e⟩ := h0.i.back i k v0[i] hi hk (List.getElem?_eq_getElem hlt)
    refine ⟨j, _, hj, e, ?_⟩
    rcases ha with ha | ha
    · exact (h.cl _ ha).symm
    · exact h.cl _ ha
  have up : ∀ i : Nat, ∀ k, k0[i]? = some k → k ∈ ks → (0 : Int) ∈ ks := by
    intro i
    induction i using Nat.strongRecOn with
    | _ i ih =>
      intro k hk hm
      by_cases hi : 1 ≤ i
      · obtain ⟨j, v, hj, e, z⟩ := back i hi k hk
        exact ih j hj v e (z.mpr hm)
      · have : i = 0 := by omega
        subst this
        rw [h0.i.hd] at hk
        cases hk
        exact hm
  have z0 : (0 : Int) ∈ ks := by
    obtain ⟨i, hi⟩ := List.mem_iff_getElem?.mp (full_in h0.i l0 gr.1 gr.2)
    exact up i g hi gm
  have down : ∀ i : Nat, ∀ k, k0[i]? = some k → k ∈ ks := by
    intro i
    induction i using Nat.strongRecOn with
    | _ i ih =>
      intro k hk
      by_cases hi : 1 ≤ i
      · obtain ⟨j, v, hj, e, z⟩ := back i hi k hk
        exact z.mp (ih j hj v e)
      · have : i = 0 := by omega
        subst this
        rw [h0.i.hd] at hk
        cases hk
        exact z0
  have z := nlenT (l := k0) (m := ks) h0.i.nd fun x hx => by
    obtain ⟨i, hi⟩ := List.mem_iff_getElem?.mp hx
    exact down i x hi
  have := h.i.few
  omega
theorem idx_at {ks : List Int} (hn : ks.Nodup) {i : Nat} {k : Int} (h : ks[i]? = some k) : ks.idxOf k = i := by
  obtain ⟨hi, e⟩ := List.getElem?_eq_some_iff.mp h
  rw [← e]
  exact hn.idxOf_getElem i hi
/-- a lot of places that ties do not leave has all places -/
theorem closed_all {ts : List (Int × Int)} (t : TiesOk ts) {S : Int → Prop} (hc : ∀ e ∈ ts, (S e.1 ↔ S e.2)) {g : Int} (g0 : 0 ≤ g) (g1 : g ≤ (ts.length : Int)) (hg : S g) : ∀ k, 0 ≤ k → k ≤ (ts.length : Int) → S k := by
  obtain ⟨ks, vs, h⟩ := steps_ex t.b _ (stepI_start (ts := ts) g0 g1 |> fun h => (⟨h.nd, h.ln, h.hd, h.hv, h.rng, fun s hs => (nomatch hs), List.nodup_nil, h.back⟩ : StepI ts g [g] [g] [])) (Nat.le_refl _)
  have hl := conn_any t h
  have down : ∀ i : Nat, ∀ k, ks[i]? = some k → S k := by
    intro i
    induction i using Nat.strongRecOn with
    | _ i ih =>
      intro k hk
      by_cases hi : 1 ≤ i
      · have hlt : i < vs.length := by rw [h.i.ln]; exact (List.getElem?_eq_some_iff.mp hk).1
        obtain ⟨ha, j, hj, e⟩ := h.i.back i k vs[i] hi hk (List.getElem?_eq_getElem hlt)
        have z := ih j hj _ e
        rcases ha with ha | ha
        · exact (hc _ ha).mpr z
        · exact (hc _ ha).mp z
      · have : i = 0 := by omega
        subst this
        rw [h.i.hd] at hk
        cases hk
        exact hg
  intro k k0 k1
  obtain ⟨i, hi⟩ := List.mem_iff_getElem?.mp (full_in h.i hl k0 k1)
  exact down i k hi
theorem risL_pair : ∀ {nss : List (List Int)}, risL nss = true → nss.Pairwise (· < ·)
  | [], _ => List.Pairwise.nil
  | [_], _ => List.pairwise_singleton _ _
  | a :: b :: l, h => by
    have e : risL (a :: b :: l) = (SCo.ltI a b && risL (b :: l)) := rfl
    rw [e, Bool.and_eq_true] at h
    have h1 : a < b := of_decide_eq_true h.1
    have ih := risL_pair h.2
    refine List.pairwise_cons.mpr ⟨fun x hx => ?_, ih⟩
    rcases List.mem_cons.mp hx with rfl | hx
    · exact h1
    · exact List.lt_trans h1 ((List.pairwise_cons.mp ih).1 x hx)
theorem ties_nodup {ts : List (Int × Int)} (t : TiesOk ts) : ts.Nodup := by
  have z := risL_pair t.ris
  have z2 : (ts.map fun t => [t.1, t.2]).Nodup := z.imp fun h e => by rw [e] at h; exact List.lt_irrefl _ h
  have z3 := List.pairwise_map.mp z2
  exact z3.imp fun h e => h (by rw [e])
/-- a tree whose places have other numbers -/
structure Ren (s : Int → Int) (n : Nat) : Prop where
  rng : ∀ k, 0 ≤ k → k ≤ (n : Int) → 0 ≤ s k ∧ s k ≤ (n : Int)
  inj : ∀ k k', 0 ≤ k → k ≤ (n : Int) → 0 ≤ k' → k' ≤ (n : Int) → s k = s k' → k = k'
theorem Ren.onto {s : Int → Int} {n : Nat} (r : Ren s n) {p : Int} (p0 : 0 ≤ p) (p1 : p ≤ (n : Int)) : ∃ q, 0 ≤ q ∧ q ≤ (n : Int) ∧ s q = p := by
  refine Classical.byContradiction fun hn => ?_
  have z := nlenT (l := p :: (upTo n).map s) (m := upTo n) (List.nodup_cons.mpr ⟨fun h => ?_, ?_⟩) fun x hx => ?_
  · rw [List.length_cons, List.length_map] at z
    omega
  · obtain ⟨q, hq, e⟩ := List.mem_map.mp h
    obtain ⟨q0, q1⟩ := upTo_mem.mp hq
    exact hn ⟨q, q0, q1, e⟩
  · refine List.pairwise_map.mpr ?_
    have u : (upTo n).Nodup := by
      unfold upTo
      refine List.pairwise_map.mpr (List.nodup_range.imp fun h e => h ?_)
      exact Int.ofNat.inj e
    refine u.imp_of_mem fun {a b} ha hb hab e => ?_
    obtain ⟨a0, a1⟩ := upTo_mem.mp ha
    obtain ⟨b0, b1⟩ := upTo_mem.mp hb
    exact hab (r.inj a b a0 a1 b0 b1 e)
  · rcases List.mem_cons.mp hx with rfl | hx
    · exact upTo_mem.mpr ⟨p0, p1⟩
    · obtain ⟨q, hq, rfl⟩ := List.mem_map.mp hx
      obtain ⟨q0, q1⟩ := upTo_mem.mp hq
      exact upTo_mem.mpr (r.rng q q0 q1)
def tieR (s : Int → Int) (t : Int × Int) : Int × Int := (min (s t.1) (s t.2), max (s t.1) (s t.2))
structure RenT (s : Int → Int) (ts us : List (Int × Int)) : Prop where
  mem : ∀ u, u ∈ us ↔ ∃ t ∈ ts, u = tieR s t
  len : us.length = ts.length
  ris : risL (us.map fun t => [t.1, t.2]) = true
theorem tieR_cases {s : Int → Int} {t : Int × Int} : tieR s t = (s t.1, s t.2) ∨ tieR s t = (s t.2, s t.1) := by
  unfold tieR
  by_cases h : s t.1 ≤ s t.2
  · left; rw [Int.min_eq_left h, Int.max_eq_right h]
  · right; rw [Int.min_eq_right (by omega), Int.max_eq_left (by omega)]
theorem tieR_inj {ts : List (Int × Int)} (t : TiesOk ts) {s : Int → Int} (r : Ren s ts.length) {a b : Int × Int} (ha : a ∈ ts) (hb : b ∈ ts) (h : tieR s a = tieR s b) : a = b := by
  have a3 := t.b a ha
  have b3 := t.b b hb
  have i1 := r.inj a.1 b.1 (by omega) (by omega) (by omega) (by omega)
  have i2 := r.inj a.2 b.2 (by omega) (by omega) (by omega) (by omega)
  have i3 := r.inj a.1 b.2 (by omega) (by omega) (by omega) (by omega)
  have i4 := r.inj a.2 b.1 (by omega) (by omega) (by omega) (by omega)
  rcases tieR_cases (s := s) (t := a) with e | e <;> rcases tieR_cases (s := s) (t := b) with e' | e' <;> rw [e, e'] at h
  · exact Prod.ext (i1 (congrArg Prod.fst h)) (i2 (congrArg Prod.snd h))
  · have := i3 (congrArg Prod.fst h); have := i4 (congrArg Prod.snd h); omega
  · have := i4 (congrArg Prod.fst h); have := i3 (congrArg Prod.snd h); omega
  · exact Prod.ext (i1 (congrArg Prod.snd h)) (i2 (congrArg Prod.fst h))
theorem ren_ties {ts us : List (Int × Int)} (t : TiesOk ts) {s : Int → Int} (r : Ren s ts.length) (h : RenT s ts us) : TiesOk us := by
  have hb : ∀ u ∈ us, 0 ≤ u.1 ∧ u.1 < u.2 ∧ u.2 ≤ (us.length : Int) := fun u hu => by
    obtain ⟨e, he, rfl⟩ := (h.mem u).mp hu
    have b := t.b e he
    have r1 := r.rng e.1 (by omega) (by omega)
    have r2 := r.rng e.2 (by omega) (by omega)
    have ne : s e.1 ≠ s e.2 := fun z => by have := r.inj e.1 e.2 (by omega) (by omega) (by omega) (by omega) z; omega
    rw [h.len]
    show 0 ≤ min (s e.1) (s e.2) ∧ min (s e.1) (s e.2) < max (s e.1) (s e.2) ∧ max (s e.1) (s e.2) ≤ _
    omega
  refine ⟨by rw [h.len]; exact t.l, hb, h.ris, fun ks vs hs => ?_⟩
  obtain ⟨g, g0, g1, eg⟩ := r.onto (p := 0) (by omega) (by omega)
  have all := closed_all t (S := fun k => s k ∈ ks) (fun e he => by
    have c := hs.cl _ ((h.mem _).mpr ⟨e, he, rfl⟩)
    rcases tieR_cases (s := s) (t := e) with z | z <;> rw [z] at c
    · exact c
    · exact c.symm) g0 g1 (by rw [eg]; exact List.mem_of_getElem? hs.i.hd)
  have z := nlenT (l := upTo ts.length) (m := ks) (by
      unfold upTo
      refine List.pairwise_map.mpr (List.nodup_range.imp fun h e => h ?_)
      exact Int.ofNat.inj e) fun x hx => by
    obtain ⟨x0, x1⟩ := upTo_mem.mp hx
    obtain ⟨q, q0, q1, rfl⟩ := r.onto x0 x1
    exact all q q0 q1
  rw [upTo_len] at z
  have := hs.i.few
  have := h.len
  omega
theorem ren_seats {ts us : List (Int × Int)} (t : TiesOk ts) {s : Int → Int} (r : Ren s ts.length) (h : RenT s ts us) {seats : List Int} (k : SeatsOk ts seats) : SeatsOk us (seats.map s) := by
  refine ⟨by rw [List.length_map]; exact k.l, fun x hx => ?_, fun p p0 p1 hp => ?_⟩
  · obtain ⟨y, hy, rfl⟩ := List.mem_map.mp hx
    have b := k.b y hy
    rw [h.len]
    exact r.rng y b.1 b.2
  · rw [h.len] at p1
    obtain ⟨q, q0, q1, rfl⟩ := r.onto p0 p1
    have z := k.lost q q0 q1 fun hq => hp (List.mem_map_of_mem hq)
    have n1 : (ts.filter (atB q)).Nodup := (ties_nodup t).sublist (List.filter_sublist)
    have z2 := nlenT (l := (ts.filter (atB q)).map (tieR s)) (m := us.filter (atB (s q))) (List.pairwise_map.mpr (n1.imp_of_mem fun {a b} ha hb hab e => hab (tieR_inj t r (List.mem_filter.mp ha).1 (List.mem_filter.mp hb).1 e))) fun x hx => by
      obtain ⟨e, he, rfl⟩ := List.mem_map.mp hx
      obtain ⟨e1, e2⟩ := List.mem_filter.mp he
      refine List.mem_filter.mpr ⟨(h.mem _).mpr ⟨e, e1, rfl⟩, ?_⟩
      have e2 := of_decide_eq_true e2
      refine decide_eq_true ?_
      rcases tieR_cases (s := s) (t := e) with z | z <;> rw [z]
      · exact e2.imp (fun h => by rw [h]) fun h => by rw [h]
      · exact e2.symm.imp (fun h => by rw [h]) fun h => by rw [h]
    rw [List.length_map] at z2
    omega
def oOf (os : List Int) (k : Int) : Int := os.getD k.toNat 0
theorem natsD_up {n : Nat} : natsD (n + 1) = (upTo n).map D.int := rfl
theorem upTo_nd {n : Nat} : (upTo n).Nodup := by
  unfold upTo
  refine List.pairwise_map.mpr (List.nodup_range.imp fun h e => h ?_)
  exact Int.ofNat.inj e
theorem oOf_at {os : List Int} {k : Int} (k0 : 0 ≤ k) (h : k < (os.length : Int)) : os[k.toNat]? = some (oOf os k) := by
  have hk : k.toNat < os.length := by omega
  unfold oOf
  rw [List.getD_eq_getElem?_getD, List.getElem?_eq_getElem hk]
  rfl
theorem ren_of {os : List Int} {n : Nat} (h : os.Perm (upTo n)) : Ren (oOf os) n := by
  have hl := h.length_eq
  rw [upTo_len] at hl
  have hn : os.Nodup := h.nodup_iff.mpr upTo_nd
  refine ⟨fun k k0 k1 => ?_, fun k k' k0 k1 k2 k3 e => ?_⟩
  · have z := oOf_at (os := os) k0 (by omega)
    exact upTo_mem.mp (h.mem_iff.mp (List.mem_of_getElem? z))
  · have z := oOf_at (os := os) k0 (by omega)
    have z' := oOf_at (os := os) k2 (by omega)
    rw [e] at z
    have a1 := idx_at hn z
    have a2 := idx_at hn z'
    omega
def renF (os : List Int) : D → D
  | .tup [.int a, .int b] => .tup [.int (oOf os a), .int (oOf os b)]
  | _ => .non
def lotR (s : Int → Int) (t : Int × Int) : List Int := [(tieR s t).1, (tieR s t).2]
def renS (s : Int → Int) (ts : List (Int × Int)) : List (Int × Int) := (sortL (ts.map (lotR s))).map fun l => (l.getD 0 0, l.getD 1 0)
theorem mm_ren {os : List Int} {ts : List (Int × Int)} : ((ts.map pairI).map (renF os)).map mmF = (ts.map (lotR (oOf os))).map tupI := by
  rw [List.map_map, List.map_map, List.map_map]
  rfl
theorem renS_pair {s : Int → Int} {ts : List (Int × Int)} : (sortL (ts.map (lotR s))).map tupI = (renS s ts).map pairI := by
  unfold renS
  rw [List.map_map]
  refine List.map_congr_left fun l hl => ?_
  obtain ⟨t, _, rfl⟩ := List.mem_map.mp ((sortL_perm _).mem_iff.mp hl)
  rfl
theorem ren_sort {s : Int → Int} {ts : List (Int × Int)} (t : TiesOk ts) (r : Ren s ts.length) : RenT s ts (renS s ts) := by
  have hm : ∀ l, l ∈ sortL (ts.map (lotR s)) ↔ ∃ e ∈ ts, l = lotR s e := fun l => by
    rw [(sortL_perm _).mem_iff, List.mem_map]
    exact ⟨fun ⟨e, he, z⟩ => ⟨e, he, z.symm⟩, fun ⟨e, he, z⟩ => ⟨e, he, z.symm⟩⟩
  have hn : (ts.map (lotR s)).Nodup := List.pairwise_map.mpr ((ties_nodup t).imp_of_mem fun {a b} ha hb hab e => hab (tieR_inj t r ha hb (by
    unfold lotR at e
    injection e with e1 e2
    injection e2 with e2 _
    exact Prod.ext e1 e2)))
  refine ⟨fun u => ?_, ?_, ?_⟩
  · unfold renS
    rw [List.mem_map]
    constructor
    · rintro ⟨l, hl, rfl⟩
      obtain ⟨e, he, rfl⟩ := (hm l).mp hl
      exact ⟨e, he, rfl⟩
    · rintro ⟨e, he, rfl⟩
      exact ⟨lotR s e, (hm _).mpr ⟨e, he, rfl⟩, rfl⟩
  · unfold renS
    rw [List.length_map, (sortL_perm _).length_eq, List.length_map]
  · have e : (renS s ts).map (fun t => [t.1, t.2]) = sortL (ts.map (lotR s)) := by
      unfold renS
      rw [List.map_map]
      refine (List.map_congr_left fun l hl => ?_).trans (List.map_id _)
      obtain ⟨t, _, rfl⟩ := (hm l).mp hl
      rfl
    rw [e]
    exact risL_of (sortL_lt hn)
def seatF (os : List Int) : D → D
  | .int i => .int (oOf os i)
  | _ => .non
theorem k13_nx {C : Addr} {ts : List (Int × Int)} {seats : List Int} : nx (treeD C ts seats) = true := by
  refine nxs_of fun d hd => ?_
  simp only [List.mem_cons, List.not_mem_nil, or_false] at hd
  rcases hd with rfl | rfl
  · refine nxs_of fun d hd => ?_
    obtain ⟨t, _, rfl⟩ := List.mem_map.mp hd
    rfl
  · exact nxs_ints
/-! partings of a tree -/
structure Side (ts : List (Int × Int)) (e : Int × Int) (s : Int → Bool) : Prop where
  same : ∀ t ∈ ts, t ≠ e → s t.1 = s t.2
  part : s e.1 ≠ s e.2
def lotU (seats : List Int) (s : Int → Bool) (k : Nat) : List Int := ((List.range k).filter fun v => s (seats.getD v 0) != s (seats.getD 0 0)).map Int.ofNat
def lotS (seats : List Int) (s : Int → Bool) : List Int := lotU seats s seats.length
structure Told (many : Nat) (ls : List (List Int)) (ts : List (Int × Int)) (seats : List Int) : Prop where
  t : TiesOk ts
  k : SeatsOk ts seats
  n : seats.length = many
  f : Fam many ls
  ex : ∃ Sd : Int × Int → Int → Bool, (∀ e ∈ ts, Side ts e (Sd e)) ∧ (ts.map fun e => lotS seats (Sd e)).Perm ls
abbrev NotIns (d : D) : Prop := ∀ C ns ds, d ≠ .ins C ns ds
theorem asc_ext {a b : List Int} (ha : a.Pairwise (· < ·)) (hb : b.Pairwise (· < ·)) (h : ∀ v, v ∈ a ↔ v ∈ b) : a = b :=
  sub_all ha hb (fun v hv => (h v).mp hv) (nlenT (hb.imp fun h => by omega) fun v hv => (h v).mpr hv)
def subT (ls : List (List Int)) (i : Nat) (p : Int) : Bool := decide (1 ≤ p ∧ p ≤ (ls.length : Int)) && subB (lotN ls (p - 1).toNat) (lotN ls i)
theorem subT_zero {ls : List (List Int)} {i : Nat} : subT ls i ((0 : Nat) : Int) = false := by
  unfold subT
  rw [decide_eq_false (by omega)]
  rfl
theorem subT_succ {ls : List (List Int)} {i j : Nat} (hj : j < ls.length) : subT ls i ((j + 1 : Nat) : Int) = subB (lotN ls j) (lotN ls i) := by
  unfold subT
  rw [decide_eq_true (by omega), show (((j + 1 : Nat) : Int) - 1).toNat = j by omega]
  rfl
theorem lot_asc {many : Nat} {ls : List (List Int)} (f : Fam many ls) {i : Nat} (hi : i < ls.length) : (lotN ls i).Pairwise (· < ·) := (f.el _ (lotN_mem hi).1).1
/-- of two lots that have a valley in common the one that is no longer is in the other -/
theorem nest_le {many : Nat} {ls : List (List Int)} (f : Fam many ls) {k i : Nat} (hk : k < ls.length) (hi : i < ls.length) {v : Int} (vk : v ∈ lotN ls k) (vi : v ∈ lotN ls i) (hl : (lotN ls k).length ≤ (lotN ls i).length) : ∀ w ∈ lotN ls k, w ∈ lotN ls i := by
  rcases f.lam _ (lotN_mem hk).1 _ (lotN_mem hi).1 with h | h | h
  · exact absurd vi (h v vk)
  · exact h
  · have e := sub_all (lot_asc f hi) (lot_asc f hk) h hl
    rw [e]
    exact fun _ h => h
theorem subB_bool {a b : List Int} {c : Bool} (h : (∀ v ∈ a, v ∈ b) ↔ c = true) : subB a b = c := by
  cases hc : subB a b with
  | true => exact (h.mp (subB_iff.mp hc)).symm
  | false =>
    cases c with
    | false => rfl
    | true => rw [subB_iff.mpr (h.mpr rfl)] at hc; cases hc
theorem par_sub {many : Nat} {ls : List (List Int)} (f : Fam many ls) {i j : Nat} (hi : i < ls.length) (hj : j < ls.length) (hij : j ≠ i) : subT ls i ((parN ls j : Nat) : Int) = subB (lotN ls j) (lotN ls i) := by
  obtain ⟨v, hv⟩ := List.exists_mem_of_ne_nil _ (f.ne _ (lotN_mem hj).1)
  unfold parN
  by_cases he : aboveN ls j = []
  · rw [he, headN_nil, subT_zero]
    symm
    refine subB_bool ⟨fun h => ?_, fun h => nomatch h⟩
    have : i ∈ aboveN ls j := aboveN_mem.mpr ⟨hi, fun z => hij z.symm, h⟩
    rw [he] at this
    cases this
  · obtain ⟨k, e, hk, least⟩ := headN_least (ls := ls) he
    obtain ⟨hk1, hk2, hk3⟩ := aboveN_mem.mp hk
    rw [e, subT_succ hk1]
    refine subB_bool ⟨fun h => subB_iff.mpr fun w hw => h w (hk3 w hw), fun h => ?_⟩
    have h := subB_iff.mp h
    exact nest_le f hk1 hi (hk3 v hv) (h v hv) (least i (aboveN_mem.mpr ⟨hi, fun z => hij z.symm, h⟩))
theorem par_self {many : Nat} {ls : List (List Int)} (f : Fam many ls) {i : Nat} (hi : i < ls.length) : subT ls i ((parN ls i : Nat) : Int) = false := by
  unfold parN
  by_cases he : aboveN ls i = []
  · rw [he, headN_nil, subT_zero]
  · obtain ⟨k, e, hk, least⟩ := headN_least (ls := ls) he
    obtain ⟨hk1, hk2, hk3⟩ := aboveN_mem.mp hk
    rw [e, subT_succ hk1]
    refine subB_bool ⟨fun h => ?_, fun h => nomatch h⟩
    exact absurd (lotN_inj f.nd hk1 hi (asc_ext (lot_asc f hk1) (lot_asc f hi) fun v => ⟨h v, hk3 v⟩)) hk2
theorem tieN_cases {ls : List (List Int)} {i : Nat} : tieN ls i = (((parN ls i : Nat) : Int), ((i + 1 : Nat) : Int)) ∨ tieN ls i = (((i + 1 : Nat) : Int), ((parN ls i : Nat) : Int)) := by
  unfold tieN
  rcases Nat.le_total (parN ls i) (i + 1) with h | h
  · left; rw [Nat.min_eq_left h, Nat.max_eq_right h]
  · right; rw [Nat.min_eq_right h, Nat.max_eq_left h]
theorem norm_side {many : Nat} {ls : List (List Int)} (f : Fam many ls) {ts : List (Int × Int)} (h : NormT ls ts) {i : Nat} (hi : i < ls.length) : Side ts (tieN ls i) (subT ls i) := by
  refine ⟨fun t ht hne => ?_, ?_⟩
  · obtain ⟨j, hj, rfl⟩ := (h.mem t).mp ht
    have hij : j ≠ i := fun z => hne (by rw [z])
    have e : subT ls i ((parN ls j : Nat) : Int) = subT ls i ((j + 1 : Nat) : Int) := by rw [par_sub f hi hj hij, subT_succ hj]
    rcases tieN_cases (ls := ls) (i := j) with z | z <;> rw [z]
    · exact e
    · exact e.symm
  · have e1 := par_self f hi
    have e2 : subT ls i ((i + 1 : Nat) : Int) = true := by rw [subT_succ hi]; exact subB_iff.mpr fun _ h => h
    rcases tieN_cases (ls := ls) (i := i) with z | z <;> rw [z]
    · show subT ls i ((parN ls i : Nat) : Int) ≠ subT ls i ((i + 1 : Nat) : Int)
      rw [e1, e2]
      exact fun z => nomatch z
    · show subT ls i ((i + 1 : Nat) : Int) ≠ subT ls i ((parN ls i : Nat) : Int)
      rw [e1, e2]
      exact fun z => nomatch z
theorem seat_sub {many : Nat} {ls : List (List Int)} (f : Fam many ls) {i : Nat} (hi : i < ls.length) (v : Int) : subT ls i ((seatN ls v : Nat) : Int) = decide (v ∈ lotN ls i) := by
  unfold seatN
  by_cases he : ownN ls v = []
  · rw [he, headN_nil, subT_zero]
    symm
    rw [decide_eq_false_iff_not]
    intro h
    have : i ∈ ownN ls v := ownN_mem.mpr ⟨hi, h⟩
    rw [he] at this
    cases this
  · obtain ⟨k, e, hk, least⟩ := headN_least (ls := ls) he
    obtain ⟨hk1, hk2⟩ := ownN_mem.mp hk
    rw [e, subT_succ hk1]
    refine subB_bool ⟨fun h => decide_eq_true (h v hk2), fun h => ?_⟩
    have h := of_decide_eq_true h
    exact nest_le f hk1 hi hk2 h (least i (ownN_mem.mpr ⟨hi, h⟩))
theorem lotU_asc {seats : List Int} {s : Int → Bool} {k : Nat} : (lotU seats s k).Pairwise (· < ·) := by
  unfold lotU
  refine List.pairwise_map.mpr ((List.pairwise_lt_range.sublist List.filter_sublist).imp fun h => ?_)
  show (_ : Int) < _
  exact Int.ofNat_lt.mpr h
theorem lotU_mem {seats : List Int} {s : Int → Bool} {k : Nat} {v : Int} : v ∈ lotU seats s k ↔ ∃ j : Nat, j < k ∧ s (seats.getD j 0) ≠ s (seats.getD 0 0) ∧ v = (j : Int) := by
  unfold lotU
  rw [List.mem_map]
  constructor
  · rintro ⟨j, hj, rfl⟩
    obtain ⟨h1, h2⟩ := List.mem_filter.mp hj
    exact ⟨j, List.mem_range.mp h1, by simpa using h2, rfl⟩
  · rintro ⟨j, h1, h2, rfl⟩
    exact ⟨j, List.mem_filter.mpr ⟨List.mem_range.mpr h1, by simpa using h2⟩, rfl⟩
theorem seatsN_len {ls : List (List Int)} {many : Nat} : (seatsN ls many).length = many := by unfold seatsN; rw [List.length_map, List.length_range]
theorem seatsN_at {ls : List (List Int)} {many k : Nat} (h : k < many) : (seatsN ls many).getD k 0 = ((seatN ls (k : Int) : Nat) : Int) := by
  unfold seatsN
  rw [List.getD_eq_getElem?_getD, List.getElem?_map, List.getElem?_range h]
  rfl
theorem lot_norm {many : Nat} {ls : List (List Int)} (f : Fam many ls) (h1 : 1 ≤ many) {i : Nat} (hi : i < ls.length) : lotS (seatsN ls many) (subT ls i) = lotN ls i := by
  unfold lotS
  rw [seatsN_len]
  obtain ⟨g1, g2⟩ := f.el _ (lotN_mem hi).1
  refine asc_ext lotU_asc g1 fun v => ?_
  have e0 : subT ls i ((seatsN ls many).getD 0 0) = false := by
    rw [seatsN_at (by omega), seat_sub f hi, decide_eq_false_iff_not]
    intro h
    have := g2 _ h
    omega
  rw [lotU_mem]
  constructor
  · rintro ⟨j, hj, hne, rfl⟩
    rw [e0, seatsN_at hj, seat_sub f hi] at hne
    simpa using hne
  · intro hv
    have b := g2 v hv
    refine ⟨v.toNat, by omega, ?_, by omega⟩
    rw [e0, seatsN_at (by omega), seat_sub f hi, show ((v.toNat : Nat) : Int) = v by omega, decide_eq_true hv]
    exact fun z => nomatch z
def idxN (ls : List (List Int)) (e : Int × Int) : Nat := ((List.range ls.length).find? fun i => decide (tieN ls i = e)).getD 0
theorem idxN_at {many : Nat} {ls : List (List Int)} (f : Fam many ls) {i : Nat} (hi : i < ls.length) : idxN ls (tieN ls i) = i := by
  unfold idxN
  cases h : (List.range ls.length).find? fun k => decide (tieN ls k = tieN ls i) with
  | none => exact absurd (List.find?_eq_none.mp h i (List.mem_range.mpr hi)) (by simp)
  | some k =>
    have h1 := List.mem_range.mp (List.mem_of_find?_eq_some h)
    have h2 := List.find?_some h
    exact tieN_inj f h1 hi (by simpa using h2)
theorem range_lotN {ls : List (List Int)} : (List.range ls.length).map (lotN ls) = ls := by
  apply List.ext_getElem
  · rw [List.length_map, List.length_range]
  · intro i h1 h2
    rw [List.getElem_map, List.getElem_range]
    unfold lotN
    rw [List.getD_eq_getElem?_getD, List.getElem?_eq_getElem h2]
    rfl
theorem perm_of_mem {α : Type} [DecidableEq α] {a b : List α} (ha : a.Nodup) (hb : b.Nodup) (h : ∀ x, x ∈ a ↔ x ∈ b) : a.Perm b := (List.perm_ext_iff_of_nodup ha hb).mpr h
theorem norm_perm {many : Nat} {ls : List (List Int)} (f : Fam many ls) {ts : List (Int × Int)} (h : NormT ls ts) : ts.Perm ((List.range ls.length).map (tieN ls)) := by
  refine perm_of_mem (ties_nodup (norm_ties f h)) ?_ fun x => ?_
  · refine List.pairwise_map.mpr (List.nodup_range.imp_of_mem fun {a b} ha hb hab e => hab ?_)
    exact tieN_inj f (List.mem_range.mp ha) (List.mem_range.mp hb) e
  · rw [h.mem, List.mem_map]
    exact ⟨fun ⟨i, hi, e⟩ => ⟨i, List.mem_range.mpr hi, e.symm⟩, fun ⟨i, hi, e⟩ => ⟨i, List.mem_range.mp hi, e.symm⟩⟩
theorem norm_told {many : Nat} {ls : List (List Int)} (f : Fam many ls) (h1 : 1 ≤ many) (h2 : many ≤ 12) {ts : List (Int × Int)} (h : NormT ls ts) : Told many ls ts (seatsN ls many) := by
  refine ⟨norm_ties f h, norm_seats f h1 h2 h, seatsN_len, f, fun e => subT ls (idxN ls e), fun e he => ?_, ?_⟩
  · obtain ⟨i, hi, rfl⟩ := (h.mem e).mp he
    show Side ts (tieN ls i) (subT ls (idxN ls (tieN ls i)))
    rw [idxN_at f hi]
    exact norm_side f h hi
  · refine ((norm_perm f h).map _).trans (List.Perm.of_eq ?_)
    rw [List.map_map]
    refine (List.map_congr_left fun i hi => ?_).trans range_lotN
    have hi := List.mem_range.mp hi
    show lotS _ (subT ls (idxN ls (tieN ls i))) = _
    rw [idxN_at f hi]
    exact lot_norm f h1 hi
def invR (s : Int → Int) (n : Nat) (p : Int) : Int := ((upTo n).find? fun q => decide (s q = p)).getD 0
theorem invR_at {s : Int → Int} {n : Nat} (r : Ren s n) {q : Int} (q0 : 0 ≤ q) (q1 : q ≤ (n : Int)) : invR s n (s q) = q := by
  unfold invR
  cases h : (upTo n).find? fun k => decide (s k = s q) with
  | none => exact absurd (List.find?_eq_none.mp h q (upTo_mem.mpr ⟨q0, q1⟩)) (by simp)
  | some k =>
    obtain ⟨k0, k1⟩ := upTo_mem.mp (List.mem_of_find?_eq_some h)
    have h2 := List.find?_some h
    exact r.inj k q k0 k1 q0 q1 (by simpa using h2)
theorem tieR_inv {s : Int → Int} {ts : List (Int × Int)} (t : TiesOk ts) (r : Ren s ts.length) {e : Int × Int} (he : e ∈ ts) : tieR (invR s ts.length) (tieR s e) = e := by
  have b := t.b e he
  have i1 := invR_at r (q := e.1) (by omega) (by omega)
  have i2 := invR_at r (q := e.2) (by omega) (by omega)
  rcases tieR_cases (s := s) (t := e) with z | z <;> rw [z] <;> unfold tieR <;> simp only [i1, i2]
  · rw [Int.min_eq_left (by omega), Int.max_eq_right (by omega)]
  · rw [Int.min_eq_right (by omega), Int.max_eq_left (by omega)]
theorem ren_told {many : Nat} {ls : List (List Int)} {ts us : List (Int × Int)} {seats : List Int} (d : Told many ls ts seats) {s : Int → Int} (r : Ren s ts.length) (h : RenT s ts us) : Told many ls us (seats.map s) := by
  obtain ⟨Sd, h1, h2⟩ := d.ex
  have tU := ren_ties d.t r h
  refine ⟨tU, ren_seats d.t r h d.k, by rw [List.length_map]; exact d.n, d.f, fun u p => Sd (tieR (invR s ts.length) u) (invR s ts.length p), fun u hu => ?_, ?_⟩
  · obtain ⟨e, he, rfl⟩ := (h.mem u).mp hu
    show Side us (tieR s e) (fun p => Sd (tieR (invR s ts.length) (tieR s e)) (invR s ts.length p))
    rw [tieR_inv d.t r he]
    have sd := h1 e he
    have bnd : ∀ x ∈ ts, invR s ts.length (s x.1) = x.1 ∧ invR s ts.length (s x.2) = x.2 := fun x hx => by
      have b := d.t.b x hx
      exact ⟨invR_at r (by omega) (by omega), invR_at r (by omega) (by omega)⟩
    refine ⟨fun t' ht' hne => ?_, ?_⟩
    · obtain ⟨x, hx, rfl⟩ := (h.mem t').mp ht'
      have hxe : x ≠ e := fun z => hne (by rw [z])
      obtain ⟨b1, b2⟩ := bnd x hx
      have same := sd.same x hx hxe
      rcases tieR_cases (s := s) (t := x) with z | z <;> rw [z] <;> simp only [b1, b2]
      · exact same
      · exact same.symm
    · obtain ⟨b1, b2⟩ := bnd e he
      have part := sd.part
      rcases tieR_cases (s := s) (t := e) with z | z <;> rw [z] <;> simp only [b1, b2]
      · exact part
      · exact part.symm
  · have pm : us.Perm (ts.map (tieR s)) := by
      refine perm_of_mem (ties_nodup tU) ?_ fun x => ?_
      · exact List.pairwise_map.mpr ((ties_nodup d.t).imp_of_mem fun {a b} ha hb hab e => hab (tieR_inj d.t r ha hb e))
      · rw [h.mem, List.mem_map]
        exact ⟨fun ⟨e, he, z⟩ => ⟨e, he, z.symm⟩, fun ⟨e, he, z⟩ => ⟨e, he, z.symm⟩⟩
    refine ((pm.map _).trans (List.Perm.of_eq ?_)).trans h2
    rw [List.map_map]
    refine List.map_congr_left fun e he => ?_
    show lotS (seats.map s) (fun p => Sd (tieR (invR s ts.length) (tieR s e)) (invR s ts.length p)) = _
    rw [tieR_inv d.t r he]
    unfold lotS
    rw [List.length_map]
    unfold lotU
    have at' : ∀ k, k < seats.length → invR s ts.length ((seats.map s).getD k 0) = seats.getD k 0 := fun k hk => by
      have e1 : (seats.map s).getD k 0 = s (seats.getD k 0) := by
        rw [List.getD_eq_getElem?_getD, List.getElem?_map, List.getD_eq_getElem?_getD, List.getElem?_eq_getElem hk]
        rfl
      have hm : seats.getD k 0 ∈ seats := by
        rw [List.getD_eq_getElem?_getD, List.getElem?_eq_getElem hk]
        exact List.getElem_mem hk
      have b := d.k.b _ hm
      rw [e1]
      exact invR_at r b.1 b.2
    have pos : 0 < seats.length := by have := d.k.l; omega
    congr 1
    refine List.filter_congr fun k hk => ?_
    dsimp only
    rw [at' k (List.mem_range.mp hk), at' 0 pos]
theorem filterMap_if {α β : Type} {p : α → Bool} {q : α → β} : ∀ l : List α, l.filterMap (fun a => if p a = true then some (q a) else none) = (l.filter p).map q
  | [] => rfl
  | a :: l => by
    rw [List.filterMap_cons, List.filter_cons]
    cases h : p a with
    | true => rw [if_pos rfl, if_pos rfl, List.map_cons, filterMap_if l]
    | false => rw [if_neg (by simp), if_neg (by simp), filterMap_if l]
theorem eqv_dTs : ∀ (a b : List (List Int)), PySem.PyData.eqv (.tuple (a.map dT)) (.tuple (b.map dT)) = decide (a = b)
  | [], [] => rfl
  | [], _ :: _ => rfl
  | _ :: _, [] => rfl
  | x :: a, y :: b => by
    have ih := eqv_dTs a b
    simp only [PySem.PyData.eqv] at ih ⊢
    simp only [List.map_cons, PySem.PyData.eqvAll, ih, eqv_dT]
    by_cases h : x = y
    · subst h; simp
    · simp [h]
theorem Fam.filter {many : Nat} {ls : List (List Int)} (f : Fam many ls) (p : List Int → Bool) : Fam many (ls.filter p) :=
  ⟨fun l hl => f.ne l ((List.mem_filter.mp hl).1), f.nd.sublist List.filter_sublist, fun l hl => f.el l ((List.mem_filter.mp hl).1), fun a ha b hb => f.lam a ((List.mem_filter.mp ha).1) b ((List.mem_filter.mp hb).1), Nat.le_trans (List.length_filter_le _ _) f.ln⟩
theorem Fam.sub {many : Nat} {ls ls' : List (List Int)} (f : Fam many ls) (h : ls'.Sublist ls) : Fam many ls' :=
  ⟨fun l hl => f.ne l (h.subset hl), f.nd.sublist h, fun l hl => f.el l (h.subset hl), fun a ha b hb => f.lam a (h.subset ha) b (h.subset hb), Nat.le_trans h.length_le f.ln⟩
theorem tree_repr {ts : List (Int × Int)} {seats : List Int} (t : TiesOk ts) (k : SeatsOk ts seats) : ∃ p, toP (.tup [.tup (ts.map pairI), tupI seats]) = some p ∧ okR p := by
  have tl := t.l
  have kl := k.l
  have A : ∀ d ∈ ts.map pairI, smB d = true ∧ lnB d ≤ 60 ∧ dpB d ≤ 1 := fun d hd => by
    obtain ⟨e, he, rfl⟩ := List.mem_map.mp hd
    have b := t.b e he
    refine ⟨?_, ?_, by simp [pairI, tupI, dpB, dpA]⟩
    · simp [pairI, tupI, smB, smA]
      omega
    · simp [pairI, tupI, lnB, lnA]
      omega
  have B : ∀ d ∈ seats.map D.int, smB d = true ∧ lnB d ≤ 30 ∧ dpB d ≤ 0 := fun d hd => by
    obtain ⟨e, he, rfl⟩ := List.mem_map.mp hd
    have b := k.b e he
    refine ⟨?_, ?_, Nat.le_refl _⟩
    · simp [smB]
      omega
    · simp [lnB]
      omega
  have l1 := lnA_le (M := 60) fun d hd => (A d hd).2.1
  have l2 := lnA_le (M := 30) fun d hd => (B d hd).2.1
  have d1 := dpA_le (M := 1) fun d hd => (A d hd).2.2
  have d2 := dpA_le (M := 0) fun d hd => (B d hd).2.2
  have s1 := smA_of fun d hd => (A d hd).1
  have s2 := smA_of fun d hd => (B d hd).1
  rw [List.length_map] at l1 l2
  have m1 : ts.length * (60 + 2) ≤ 21 * 62 := Nat.mul_le_mul_right _ tl
  have m2 : seats.length * (30 + 2) ≤ 12 * 32 := Nat.mul_le_mul_right _ kl.2
  obtain ⟨p, e, g1, g2, g3, g4⟩ := sm_toP (.tup [.tup (ts.map pairI), tupI seats]) (by
    show (smA (ts.map pairI) && (smA (seats.map D.int) && true)) = true
    rw [s1, s2]
    rfl)
  have eL : lnB (.tup [.tup (ts.map pairI), tupI seats]) = ((lnA (ts.map pairI) + 4) + 2 + ((lnA (seats.map D.int) + 4) + 2 + 0)) + 4 := rfl
  have eD : dpB (.tup [.tup (ts.map pairI), tupI seats]) = max (dpA (ts.map pairI) + 1) (max (dpA (seats.map D.int) + 1) 0) + 1 := rfl
  exact ⟨p, e, g1, g2, by omega, by omega⟩
theorem pairs_tup {ts : List (Int × Int)} : ts.map pairI = (ts.map fun e => [e.1, e.2]).map tupI := by rw [List.map_map]; rfl
theorem pairs_inj : ∀ {ts us : List (Int × Int)}, (ts.map fun e => [e.1, e.2]) = (us.map fun e => [e.1, e.2]) → ts = us
  | [], [], _ => rfl
  | [], _ :: _, h => nomatch h
  | _ :: _, [], h => nomatch h
  | a :: ts, b :: us, h => by
    simp only [List.map_cons, List.cons.injEq, and_true] at h
    rw [pairs_inj h.2, show a = b from Prod.ext h.1.1 h.1.2]
theorem eqP_ties {g : Bool → Bool} {ts us : List (Int × Int)} {k : D → Prop} (h : k (.bl (g (decide (ts = us))))) : eqP g (.tup (ts.map pairI)) (.tup (us.map pairI)) k := by
  rw [pairs_tup, pairs_tup]
  refine ⟨_, _, toP_tupsT _, toP_tupsT _, shaped_tupsT _, shaped_tupsT _, ?_⟩
  rw [eqv_dTs, show decide ((ts.map fun e => [e.1, e.2]) = us.map fun e => [e.1, e.2]) = decide (ts = us) from decide_eq_decide.mpr ⟨pairs_inj, fun h => by rw [h]⟩]
  exact h
theorem eqP_ints {g : Bool → Bool} {a b : List Int} {k : D → Prop} (h : k (.bl (g (decide (a = b))))) : eqP g (tupI a) (tupI b) k := by
  refine ⟨_, _, toP_tup _, toP_tup _, shaped_tup _, shaped_tup _, ?_⟩
  rw [eqv_dT]
  exact h
/-! the far side of a tie -/
structure FarB (n : Nat) (s : Int → Bool) (F : List Int) : Prop where
  z : (0 : Int) ∈ F
  nd : F.Nodup
  el : ∀ p ∈ F, 0 ≤ p ∧ p ≤ (n : Int) ∧ s p = s 0
section
variable {ts : List (Int × Int)} {e : Int × Int} {s : Int → Bool} {F0 F : List Int}
end
/-! how many lots there can be -/
theorem risB_asc : ∀ {l : List Int}, risB l = true → l.Pairwise (· < ·)
  | [], _ => List.Pairwise.nil
  | [_], _ => by simp
  | a :: b :: l, h => by
    have h0 : decide (a < b) = true ∧ risB (b :: l) = true := by simpa [risB] using h
    have ih := risB_asc h0.2
    refine List.pairwise_cons.mpr ⟨fun v hv => ?_, ih⟩
    rcases List.mem_cons.mp hv with rfl | hv
    · exact of_decide_eq_true h0.1
    · have := List.rel_of_pairwise_cons ih hv
      have := of_decide_eq_true h0.1
      omega
theorem FarB.len {n : Nat} {s : Int → Bool} {F : List Int} (b : FarB n s F) : F.length ≤ n + 1 := by
  have z := nlenT (m := upTo n) b.nd fun x hx => upTo_mem.mpr ⟨(b.el x hx).1, (b.el x hx).2.1⟩
  rw [upTo_len] at z
  exact z
theorem lot_of {lo hi : Int} {d : D} (h : lotB2 lo hi d = true) : ∃ ns, d = tupI ns ∧ ns ≠ [] ∧ ns.Pairwise (· < ·) ∧ ∀ v ∈ ns, lo ≤ v ∧ v ≤ hi := by
  cases d with
  | tup xs =>
    have h : (!xs.isEmpty && xs.all (betw lo hi) && risB (intsOf xs)) = true := h
    rw [Bool.and_eq_true, Bool.and_eq_true] at h
    obtain ⟨⟨h1, h2⟩, h3⟩ := h
    have e : xs = (intsOf xs).map D.int := all_ints fun d hd => by
      have q := List.all_eq_true.mp h2 d hd
      cases d with
      | int v => exact ⟨v, rfl⟩
      | _ => simp [betw] at q
    refine ⟨intsOf xs, congrArg D.tup e, fun z => ?_, risB_asc h3, fun v hv => ?_⟩
    · rw [z] at e
      rw [e] at h1
      cases h1
    · have q := List.all_eq_true.mp h2 (.int v) (by rw [e]; exact List.mem_map_of_mem hv)
      simpa [betw] using q
  | _ => simp [lotB2] at h
theorem lot_is {lo hi : Int} {ns : List Int} (h1 : ns ≠ []) (h2 : ns.Pairwise (· < ·)) (h3 : ∀ v ∈ ns, lo ≤ v ∧ v ≤ hi) : lotB2 lo hi (tupI ns) = true := by
  show (!(ns.map D.int).isEmpty && (ns.map D.int).all (betw lo hi) && risB (intsOf (ns.map D.int))) = true
  rw [intsOf_map, risB_of h2, Bool.and_true, Bool.and_eq_true]
  refine ⟨?_, List.all_eq_true.mpr fun d hd => ?_⟩
  · cases ns with
    | nil => exact absurd rfl h1
    | cons a l => rfl
  · obtain ⟨v, hv, rfl⟩ := List.mem_map.mp hd
    have := h3 v hv
    simp only [betw, Bool.and_eq_true, decide_eq_true_eq]
    exact this
/-! one statement at a time -/
theorem seq_cut {A B : DTS} {DD : DEn} {ρ : List SV} {n : Nat} {XP : DX} (h : ∀ B', B' = B → ∀ D' : DEn, D' = DD → xsSeq A B' D' ρ n XP) : xsSeq A B DD ρ n XP := h B rfl DD rfl
theorem seq_for {FI : DTI} {G : DTG} {B C : DTS} {DD : DEn} {ρ : List SV} {n : Nat} {XP : DX} (h : ∀ B', B' = B → ∀ C', C' = C → ∀ D' : DEn, D' = DD → xsSeq (xsFor FI G B') C' D' ρ n XP) : xsSeq (xsFor FI G B) C DD ρ n XP := h B rfl C rfl DD rfl
/-! any ties, any seats -/
theorem steps_sub {ts : List (Int × Int)} {g : Int} {ks vs st : List Int} (h : StepI ts g ks vs st) {S : List Int} (hc : ∀ t ∈ ts, (t.1 ∈ S ↔ t.2 ∈ S)) (hg : g ∈ S) : ∀ k ∈ ks, k ∈ S := by
  have main : ∀ (m i : Nat) (k : Int), i ≤ m → ks[i]? = some k → k ∈ S := by
    intro m
    induction m with
    | zero =>
      intro i k hi hk
      obtain rfl : i = 0 := by omega
      rw [h.hd] at hk
      rw [← Option.some.inj hk]
      exact hg
    | succ m ih =>
      intro i k hi hk
      cases i with
      | zero => exact ih 0 k (Nat.zero_le _) hk
      | succ i =>
        have hl := (List.getElem?_eq_some_iff.mp hk).1
        have hl2 : i + 1 < vs.length := by rw [h.ln]; exact hl
        have hv : vs[i + 1]? = some vs[i + 1] := List.getElem?_eq_getElem hl2
        obtain ⟨ht, j, hj, ej⟩ := h.back (i + 1) k _ (by omega) hk hv
        have hs := ih j _ (by omega) ej
        rcases ht with ht | ht
        · exact (hc _ ht).mpr hs
        · exact (hc _ ht).mp hs
  intro k hk
  obtain ⟨i, hi⟩ := List.mem_iff_getElem?.mp hk
  exact main i i k (Nat.le_refl _) hi
theorem steps_len {ts : List (Int × Int)} {g : Int} {ks vs ks' vs' : List Int} (h : StepsOk ts g ks vs) (h' : StepsOk ts g ks' vs') : ks.length = ks'.length := by
  have a := nlenT h.i.nd (steps_sub h.i h'.cl (List.mem_of_getElem? h'.i.hd))
  have b := nlenT h'.i.nd (steps_sub h'.i h.cl (List.mem_of_getElem? h.i.hd))
  omega
noncomputable def connB (ts : List (Int × Int)) : Bool := @decide (∃ ks vs, StepsOk ts 0 ks vs ∧ ks.length = ts.length + 1) (Classical.propDecidable _)
theorem conn_true {ts : List (Int × Int)} : connB ts = true ↔ ∃ ks vs, StepsOk ts 0 ks vs ∧ ks.length = ts.length + 1 := @decide_eq_true_iff _ (Classical.propDecidable _)
theorem conn_len {ts : List (Int × Int)} {ks vs : List Int} (h : StepsOk ts 0 ks vs) : connB ts = decide (ks.length = ts.length + 1) := by
  by_cases z : ks.length = ts.length + 1
  · rw [decide_eq_true z]
    exact conn_true.mpr ⟨ks, vs, h, z⟩
  · rw [decide_eq_false z]
    cases y : connB ts with
    | false => rfl
    | true =>
      obtain ⟨ks', vs', h', e⟩ := conn_true.mp y
      exact absurd (by rw [steps_len h h', e]) z
def PairsB (ts : List (Int × Int)) : Prop := ∀ t ∈ ts, 0 ≤ t.1 ∧ t.1 < t.2 ∧ t.2 ≤ (ts.length : Int)
theorem steps_any {ts : List (Int × Int)} (hb : PairsB ts) : ∃ ks vs, StepsOk ts 0 ks vs :=
  steps_ex hb _ (stepI_start (ts := ts) (goal := 0) (by omega) (by omega) |> fun h => (⟨h.nd, h.ln, h.hd, h.hv, h.rng, fun s hs => (nomatch hs), List.nodup_nil, h.back⟩ : StepI ts 0 [0] [0] [])) (Nat.le_refl _)
theorem conn_iff {ts : List (Int × Int)} (hb : PairsB ts) : connB ts = true ↔ ∀ ks vs, StepsOk ts 0 ks vs → ks.length = ts.length + 1 := by
  constructor
  · intro h ks vs hs
    rw [conn_len hs] at h
    exact of_decide_eq_true h
  · intro h
    obtain ⟨ks, vs, hs⟩ := steps_any hb
    rw [conn_len hs]
    exact decide_eq_true (h ks vs hs)
def len2D : D → Bool
  | .tup [_, _] => true
  | _ => false
def tieB (n : Nat) (d : D) : Bool := lotB2 0 (n : Int) d && len2D d
def pairD (d : D) : Int × Int := ((intsD d).getD 0 0, (intsD d).getD 1 0)
theorem pairD_at {e : Int × Int} : pairD (pairI e) = e := by
  unfold pairD pairI
  rw [intsD_tup]
  rfl
theorem pairD_map {ts : List (Int × Int)} : (ts.map pairI).map pairD = ts := by
  rw [List.map_map, show pairD ∘ pairI = id from funext fun _ => pairD_at, List.map_id]
noncomputable def tiesB : D → Bool
  | .tup xs => decide (xs.length ≤ 21) && (xs.all (tieB xs.length) && (risL (xs.map intsD) && connB (xs.map pairD)))
  | _ => false
theorem tieB_pair {n : Nat} {d : D} (h : tieB n d = true) : ∃ e : Int × Int, d = pairI e ∧ 0 ≤ e.1 ∧ e.1 < e.2 ∧ e.2 ≤ (n : Int) := by
  unfold tieB at h
  obtain ⟨h1, h2⟩ := Bool.and_eq_true_iff.mp h
  obtain ⟨ns, rfl, hne, hp, hb⟩ := lot_of h1
  match ns, h2, hp, hb with
  | [a, b], _, hp, hb =>
    have l := List.pairwise_cons.mp hp
    have := hb a (by simp)
    have := hb b (by simp)
    have := l.1 b (by simp)
    exact ⟨(a, b), rfl, by dsimp only; omega, by dsimp only; omega, by dsimp only; omega⟩
  | [], h2, _, _ => cases h2
  | [_], h2, _, _ => cases h2
  | _ :: _ :: _ :: _, h2, _, _ => cases h2
theorem tieB_is {n : Nat} {e : Int × Int} (h0 : 0 ≤ e.1) (h1 : e.1 < e.2) (h2 : e.2 ≤ (n : Int)) : tieB n (pairI e) = true := by
  unfold tieB
  rw [show lotB2 0 (n : Int) (pairI e) = true from lot_is (by simp) (by simp [h1]) (fun v hv => by
    simp only [List.mem_cons, List.not_mem_nil, or_false] at hv
    omega)]
  rfl
theorem pairs_of {n : Nat} : ∀ {xs : List D}, xs.all (tieB n) = true → ∃ ts : List (Int × Int), xs = ts.map pairI ∧ ∀ t ∈ ts, 0 ≤ t.1 ∧ t.1 < t.2 ∧ t.2 ≤ (n : Int)
  | [], _ => ⟨[], rfl, fun _ h => nomatch h⟩
  | x :: xs, h => by
    rw [List.all_cons, Bool.and_eq_true] at h
    obtain ⟨e, rfl, b⟩ := tieB_pair h.1
    obtain ⟨ts, rfl, bs⟩ := pairs_of h.2
    exact ⟨e :: ts, rfl, fun t ht => (List.mem_cons.mp ht).elim (fun z => by rw [z]; exact b) (bs t)⟩
theorem pairs_B {n : Nat} {ts : List (Int × Int)} (h : ∀ t ∈ ts, 0 ≤ t.1 ∧ t.1 < t.2 ∧ t.2 ≤ (n : Int)) : (ts.map pairI).all (tieB n) = true := List.all_eq_true.mpr fun d hd => by
  obtain ⟨e, he, rfl⟩ := List.mem_map.mp hd
  have b := h e he
  exact tieB_is b.1 b.2.1 b.2.2
theorem ints_pairs {ts : List (Int × Int)} : (ts.map pairI).map intsD = ts.map fun t => [t.1, t.2] := by
  rw [List.map_map]
  exact List.map_congr_left fun t _ => intsD_tup
theorem tiesB_pairs {ts : List (Int × Int)} (hl : ts.length ≤ 21) (hb : PairsB ts) : tiesB (.tup (ts.map pairI)) = (risL (ts.map fun t => [t.1, t.2]) && connB ts) := by
  show (decide ((ts.map pairI).length ≤ 21) && ((ts.map pairI).all (tieB (ts.map pairI).length) && (risL ((ts.map pairI).map intsD) && connB ((ts.map pairI).map pairD)))) = _
  rw [List.length_map, decide_eq_true hl, pairs_B hb, ints_pairs, pairD_map]
  rfl
theorem tiesB_ok {d : D} (h : tiesB d = true) : ∃ ts, d = .tup (ts.map pairI) ∧ TiesOk ts := by
  cases d with
  | tup xs =>
    have h : (decide (xs.length ≤ 21) && (xs.all (tieB xs.length) && (risL (xs.map intsD) && connB (xs.map pairD)))) = true := h
    simp only [Bool.and_eq_true, decide_eq_true_eq] at h
    obtain ⟨h1, h2, h3, h4⟩ := h
    obtain ⟨ts, e, bs⟩ := pairs_of h2
    have hl : xs.length = ts.length := by rw [e, List.length_map]
    rw [hl] at h1 bs
    rw [e, ints_pairs] at h3
    rw [e, pairD_map] at h4
    exact ⟨ts, by rw [e], h1, bs, h3, (conn_iff bs).mp h4⟩
  | _ => cases h
theorem ties_B {ts : List (Int × Int)} (t : TiesOk ts) : tiesB (.tup (ts.map pairI)) = true := by
  rw [tiesB_pairs t.l t.b, t.ris, (conn_iff t.b).mpr t.conn]
  rfl
def seatsB (ts : List (Int × Int)) : D → Bool
  | .tup xs => decide (1 ≤ xs.length ∧ xs.length ≤ 12) && (xs.all (betw 0 (ts.length : Int)) && (upTo ts.length).all fun p => decide (p ∈ intsOf xs) || decide (3 ≤ (ts.filter (atB p)).length))
  | _ => false
theorem seatsB_ints {ts : List (Int × Int)} {seats : List Int} : seatsB ts (tupI seats) = (decide (1 ≤ seats.length ∧ seats.length ≤ 12) && ((seats.map D.int).all (betw 0 (ts.length : Int)) && (upTo ts.length).all fun p => decide (p ∈ seats) || decide (3 ≤ (ts.filter (atB p)).length))) := by
  show (decide (1 ≤ (seats.map D.int).length ∧ (seats.map D.int).length ≤ 12) && ((seats.map D.int).all (betw 0 (ts.length : Int)) && (upTo ts.length).all fun p => decide (p ∈ intsOf (seats.map D.int)) || decide (3 ≤ (ts.filter (atB p)).length))) = _
  rw [List.length_map, intsOf_map]
theorem betw_ints {lo hi : Int} : ∀ {xs : List D}, xs.all (betw lo hi) = true → ∃ ns : List Int, xs = ns.map D.int ∧ ∀ v ∈ ns, lo ≤ v ∧ v ≤ hi
  | [], _ => ⟨[], rfl, fun _ h => nomatch h⟩
  | x :: xs, h => by
    rw [List.all_cons, Bool.and_eq_true] at h
    obtain ⟨ns, rfl, b⟩ := betw_ints h.2
    have h1 := h.1
    cases x with
    | int v =>
      simp only [betw, Bool.and_eq_true, decide_eq_true_eq] at h1
      exact ⟨v :: ns, rfl, fun w hw => (List.mem_cons.mp hw).elim (fun z => by rw [z]; exact h1) (b w)⟩
    | _ => cases h1
theorem seatsB_ok {ts : List (Int × Int)} {d : D} (h : seatsB ts d = true) : ∃ seats, d = tupI seats ∧ SeatsOk ts seats := by
  cases d with
  | tup xs =>
    have h' : (decide (1 ≤ xs.length ∧ xs.length ≤ 12) && (xs.all (betw 0 (ts.length : Int)) && (upTo ts.length).all fun p => decide (p ∈ intsOf xs) || decide (3 ≤ (ts.filter (atB p)).length))) = true := h
    obtain ⟨seats, rfl, bs⟩ := betw_ints (Bool.and_eq_true_iff.mp (Bool.and_eq_true_iff.mp h').2).1
    rw [List.length_map, intsOf_map] at h'
    simp only [Bool.and_eq_true, decide_eq_true_eq, List.all_eq_true, Bool.or_eq_true] at h'
    exact ⟨seats, rfl, h'.1, bs, fun p p0 p1 hp => (h'.2.2 p (upTo_mem.mpr ⟨p0, p1⟩)).resolve_left hp⟩
  | _ => cases h
theorem seats_B {ts : List (Int × Int)} {seats : List Int} (k : SeatsOk ts seats) : seatsB ts (tupI seats) = true := by
  rw [seatsB_ints]
  simp only [Bool.and_eq_true, decide_eq_true_eq, List.all_eq_true, Bool.or_eq_true]
  refine ⟨k.l, fun d hd => ?_, fun p hp => ?_⟩
  · obtain ⟨v, hv, rfl⟩ := List.mem_map.mp hd
    simp only [betw, Bool.and_eq_true, decide_eq_true_eq]
    exact k.b v hv
  · obtain ⟨p0, p1⟩ := upTo_mem.mp hp
    by_cases h : p ∈ seats
    · exact .inl h
    · exact .inr (k.lost p p0 p1 h)
/-- what a walk by laps has found -/
structure JoinI (ts : List (Int × Int)) (F : List Int) : Prop where
  z : (0 : Int) ∈ F
  nd : F.Nodup
  rng : ∀ p ∈ F, 0 ≤ p ∧ p ≤ (ts.length : Int)
  sub : ∀ S : List Int, (∀ t ∈ ts, (t.1 ∈ S ↔ t.2 ∈ S)) → (0 : Int) ∈ S → ∀ p ∈ F, p ∈ S
def ClJ (ts : List (Int × Int)) (F : List Int) : Prop := ∀ t ∈ ts, (t.1 ∈ F ↔ t.2 ∈ F)
structure LapJ (ts : List (Int × Int)) (F0 F : List Int) (j : Nat) : Prop where
  b : JoinI ts F
  h : (F = F0 ∧ ∀ (i : Nat) (t : Int × Int), i < j → ts[i]? = some t → (t.1 ∈ F0 ↔ t.2 ∈ F0)) ∨ F0.length + 1 ≤ F.length
  s : F0.length ≤ F.length
  z0 : (0 : Int) ∈ F0
theorem joinI_start {ts : List (Int × Int)} : JoinI ts [0] := ⟨by simp, by simp, fun p hp => by rw [List.mem_singleton.mp hp]; omega, fun S _ h p hp => by rw [List.mem_singleton.mp hp]; exact h⟩
theorem joinI_len {ts : List (Int × Int)} {F : List Int} (b : JoinI ts F) : F.length ≤ ts.length + 1 := by
  have z := nlenT (m := upTo ts.length) b.nd fun x hx => upTo_mem.mpr (b.rng x hx)
  rwa [upTo_len] at z
theorem lapJ_start {ts : List (Int × Int)} {F : List Int} (b : JoinI ts F) : LapJ ts F F 0 := ⟨b, .inl ⟨rfl, fun i t hi => absurd hi (Nat.not_lt_zero i)⟩, Nat.le_refl _, b.z⟩
theorem lapJ_keep {ts : List (Int × Int)} {F0 F : List Int} {j : Nat} {t : Int × Int} (h : LapJ ts F0 F j) (ht : ts[j]? = some t) (hk : t.1 ∈ F ↔ t.2 ∈ F) : LapJ ts F0 F (j + 1) := by
  refine ⟨h.b, ?_, h.s, h.z0⟩
  rcases h.h with ⟨rfl, h1⟩ | h1
  · refine .inl ⟨rfl, fun i u hi hu => ?_⟩
    by_cases z : i = j
    · subst z
      rw [ht] at hu
      rw [← Option.some.inj hu]
      exact hk
    · exact h1 i u (by omega) hu
  · exact .inr h1
theorem lapJ_add {ts : List (Int × Int)} {F0 F : List Int} {j : Nat} {t : Int × Int} {x y : Int} (hb : PairsB ts) (h : LapJ ts F0 F j) (ht : t ∈ ts) (hxy : t = (x, y) ∨ t = (y, x)) (hy : y ∈ F) (hx : x ∉ F) : LapJ ts F0 (F ++ [x]) (j + 1) := by
  have b := hb t ht
  have xr : 0 ≤ x ∧ x ≤ (ts.length : Int) := by
    rcases hxy with rfl | rfl
    · exact ⟨b.1, by have := b.2; dsimp only at this; omega⟩
    · exact ⟨by have := b; dsimp only at this; omega, b.2.2⟩
  refine ⟨⟨List.mem_append_left _ h.b.z, ?_, fun p hp => ?_, fun S hS h0 p hp => ?_⟩, .inr ?_, ?_, h.z0⟩
  · rw [List.nodup_append]
    exact ⟨h.b.nd, List.nodup_cons.mpr ⟨(fun z => nomatch z), List.nodup_nil⟩, fun a ha c hc e => hx (by rw [← List.mem_singleton.mp hc, ← e]; exact ha)⟩
  · rcases List.mem_append.mp hp with hp | hp
    · exact h.b.rng p hp
    · rw [List.mem_singleton.mp hp]
      exact xr
  · rcases List.mem_append.mp hp with hp | hp
    · exact h.b.sub S hS h0 p hp
    · rw [List.mem_singleton.mp hp]
      have hyS := h.b.sub S hS h0 y hy
      have c := hS t ht
      rcases hxy with rfl | rfl
      · exact c.mpr hyS
      · exact c.mp hyS
  · rw [List.length_append, List.length_singleton]
    have := h.s
    omega
  · rw [List.length_append]
    have := h.s
    omega
theorem lapJ_end {ts : List (Int × Int)} {F0 F : List Int} {i : Nat} (h : LapJ ts F0 F ts.length) (h0 : ClJ ts F0 ∨ i + 1 ≤ F0.length) : ClJ ts F ∨ i + 1 + 1 ≤ F.length := by
  rcases h.h with ⟨rfl, h1⟩ | h1
  · refine .inl fun t ht => ?_
    obtain ⟨k, hk⟩ := List.mem_iff_getElem?.mp ht
    exact h1 k t (List.getElem?_eq_some_iff.mp hk).1 hk
  · rcases h0 with h0 | h0
    · refine .inl fun t ht => ?_
      have s1 : ∀ p ∈ F, p ∈ F0 := h.b.sub F0 h0 h.z0
      have := nlenT h.b.nd s1
      omega
    · exact .inr (by omega)
theorem join_len {ts : List (Int × Int)} {F : List Int} (hb : PairsB ts) (b : JoinI ts F) (h : ClJ ts F ∨ ts.length + 1 + 1 ≤ F.length) : connB ts = decide (F.length = ts.length + 1) := by
  have hc : ClJ ts F := h.resolve_right fun z => by have := joinI_len b; omega
  obtain ⟨ks, vs, hs⟩ := steps_any hb
  have a1 := nlenT hs.i.nd (steps_sub hs.i hc b.z)
  have a2 := nlenT b.nd (b.sub ks hs.cl (List.mem_of_getElem? hs.i.hd))
  rw [conn_len hs, show ks.length = F.length by omega]
def deg3 (ts : List (Int × Int)) : D → Bool
  | .int p => decide (3 ≤ (ts.filter (atB p)).length)
  | _ => false
theorem lost_map {n : Nat} {seats : List Int} : (rangeD 0 (n + 1)).filterMap (lostF seats) = ((upTo n).filter fun p => !decide (p ∈ seats)).map D.int := by
  have e : rangeD 0 (n + 1) = (upTo n).map D.int := by
    unfold rangeD upTo
    rw [List.map_map]
    refine List.map_congr_left fun j _ => ?_
    show D.int (0 + (j : Int)) = D.int (Int.ofNat j)
    rw [Int.zero_add]
    rfl
  rw [e, List.filterMap_map]
  have e2 : (lostF seats ∘ D.int) = fun p : Int => if (!decide (p ∈ seats)) = true then some (D.int p) else none := by
    funext p
    show (match !(seats.any fun z => z == p) with | true => some (D.int p) | false => none) = _
    rw [any_in]
    cases decide (p ∈ seats) <;> rfl
  rw [e2, filterMap_if]
theorem all_filter {α : Type} {p q : α → Bool} : ∀ l : List α, (l.filter fun x => !p x).all q = l.all fun x => p x || q x
  | [] => rfl
  | a :: l => by
    rw [List.filter_cons, List.all_cons, ← all_filter l]
    cases p a <;> simp
theorem deg_all {ts : List (Int × Int)} {seats : List Int} : ((((upTo ts.length).filter fun p => !decide (p ∈ seats)).map D.int).all (deg3 ts)) = (upTo ts.length).all fun p => decide (p ∈ seats) || decide (3 ≤ (ts.filter (atB p)).length) := by
  rw [List.all_map, ← all_filter]
  rfl
theorem ties_nx {ts : List (Int × Int)} : nx (.tup (ts.map pairI)) = true := nxs_of fun d hd => by
  obtain ⟨e, _, rfl⟩ := List.mem_map.mp hd
  rfl
theorem ties_short {ts : List (Int × Int)} (h : ts.length ≤ 21) : short2 (.tup (ts.map pairI)) = true := by
  simp only [short2, Bool.and_eq_true, decide_eq_true_eq, List.all_eq_true, List.length_map]
  refine ⟨by omega, fun d hd => ?_⟩
  obtain ⟨e, _, rfl⟩ := List.mem_map.mp hd
  rfl
def shortS : D → Bool
  | .tup xs => decide (xs.length ≤ 300)
  | _ => true
theorem betw_ex {lo hi : Int} {d : D} (h : betw lo hi d = true) : ∃ v : Int, d = .int v ∧ lo ≤ v ∧ v ≤ hi := ⟨toI d, betw_int h⟩
theorem at_any {p : Int} {t : Int × Int} : ([t.1, t.2].any (· == p)) = atB p t := by
  unfold atB
  by_cases h1 : t.1 = p
  · simp [h1]
  · by_cases h2 : t.2 = p
    · simp [h2]
    · simp [h1, h2]
theorem at_ones {ts : List (Int × Int)} {v : Int} : (ts.map pairI).filterMap (fun d => if atB v (pairD d) = true then some (D.int 1) else none) = (ts.filter (atB v)).map fun _ => D.int 1 := by
  rw [List.filterMap_map]
  have e : ((fun d => if atB v (pairD d) = true then some (D.int 1) else none) ∘ pairI) = fun t : Int × Int => if atB v t = true then some (D.int 1) else none := by
    funext t
    show (if atB v (pairD (pairI t)) = true then some (D.int 1) else none) = _
    rw [pairD_at]
  rw [e, filterMap_if]
theorem perm_seats {ys : List D} {seats : List Int} (h : ys.Perm (seats.map D.int)) : ∃ st : List Int, ys = st.map D.int ∧ st.Perm seats := by
  obtain ⟨st, rfl⟩ : ∃ st : List Int, ys = st.map D.int := ⟨intsOf ys, all_ints fun d hd => by
    obtain ⟨v, _, rfl⟩ := List.mem_map.mp (h.mem_iff.mp hd)
    exact ⟨v, rfl⟩⟩
  refine ⟨st, rfl, ?_⟩
  have := h.map (fun d => match d with | .int i => i | _ => 0)
  rw [List.map_map, List.map_map] at this
  simpa [Function.comp_def] using this
theorem fam_row : Fam 3 [[1, 2], [2]] := by
  refine ⟨by simp, by decide, by simp, fun a ha b hb => ?_, by decide⟩
  simp only [List.mem_cons, List.not_mem_nil, or_false] at ha hb
  rcases ha with rfl | rfl <;> rcases hb with rfl | rfl <;> simp
theorem fam_star : Fam 3 [[1], [2]] := by
  refine ⟨by simp, by decide, by simp, fun a ha b hb => ?_, by decide⟩
  simp only [List.mem_cons, List.not_mem_nil, or_false] at ha hb
  rcases ha with rfl | rfl <;> rcases hb with rfl | rfl <;> simp
theorem norm_row : NormT [[1, 2], [2]] [(0, 1), (1, 2)] := by
  refine ⟨fun t => ?_, rfl, by decide⟩
  have e0 : tieN [[1, 2], [2]] 0 = (0, 1) := by decide
  have e1 : tieN [[1, 2], [2]] 1 = (1, 2) := by decide
  constructor
  · intro h
    simp only [List.mem_cons, List.not_mem_nil, or_false] at h
    rcases h with rfl | rfl
    · exact ⟨0, by decide, e0.symm⟩
    · exact ⟨1, by decide, e1.symm⟩
  · rintro ⟨i, hi, rfl⟩
    match i, hi with
    | 0, _ => rw [e0]; simp
    | 1, _ => rw [e1]; simp
theorem norm_star : NormT [[1], [2]] [(0, 1), (0, 2)] := by
  refine ⟨fun t => ?_, rfl, by decide⟩
  have e0 : tieN [[1], [2]] 0 = (0, 1) := by decide
  have e1 : tieN [[1], [2]] 1 = (0, 2) := by decide
  constructor
  · intro h
    simp only [List.mem_cons, List.not_mem_nil, or_false] at h
    rcases h with rfl | rfl
    · exact ⟨0, by decide, e0.symm⟩
    · exact ⟨1, by decide, e1.symm⟩
  · rintro ⟨i, hi, rfl⟩
    match i, hi with
    | 0, _ => rw [e0]; simp
    | 1, _ => rw [e1]; simp
theorem seats_row : SeatsOk [(0, 1), (1, 2)] [0, 1, 2] := by
  have z := norm_seats fam_row (by decide) (by decide) norm_row
  rwa [show seatsN [[1, 2], [2]] 3 = [0, 1, 2] by decide] at z
theorem seats_star : SeatsOk [(0, 1), (0, 2)] [0, 1, 2] := by
  have z := norm_seats fam_star (by decide) (by decide) norm_star
  rwa [show seatsN [[1], [2]] 3 = [0, 1, 2] by decide] at z
theorem eqv_lots (a b : List (List Int)) : PySem.PyData.eqvAll (a.map dT) (b.map dT) = decide (a = b) := by
  have h := eqv_dTs a b
  simp only [PySem.PyData.eqv] at h
  exact h
theorem eqP_shape {g : Bool → Bool} {ts us : List (Int × Int)} {a b : List Int} {k : D → Prop} (h : k (.bl (g (decide (ts = us ∧ a = b))))) : eqP g (.tup [.tup (ts.map pairI), tupI a]) (.tup [.tup (us.map pairI), tupI b]) k := by
  have one : ∀ (ts : List (Int × Int)) (a : List Int), toP (.tup [.tup (ts.map pairI), tupI a]) = some (.tuple [.tuple ((ts.map fun e => [e.1, e.2]).map dT), dT a]) := fun ts a => by
    show (match toP (.tup (ts.map pairI)), (match toP (tupI a), (some [] : Option (List PySem.PyData)) with | some p, some ps => some (p :: ps) | _, _ => none) with | some p, some ps => some (p :: ps) | _, _ => none).map PySem.PyData.tuple = _
    rw [pairs_tup, toP_tupsT, toP_tup]
    rfl
  have sh : ∀ (ts : List (List Int)) (a : List Int), SeqAt.shaped (.tuple [.tuple (ts.map dT), dT a]) = true := fun ts a => by
    unfold SeqAt.shaped
    have z := depth_tups ts
    simp [PySem.PyData.canLay0, PySem.PyData.canLayAll0, lay_tups ts, PySem.PyData.depth, PySem.PyData.depthAll, dT, lay_ints, depth_ints]
    omega
  refine ⟨_, _, one ts a, one us b, sh _ _, sh _ _, ?_⟩
  have e : PySem.PyData.eqv (.tuple [.tuple ((ts.map fun e => [e.1, e.2]).map dT), dT a]) (.tuple [.tuple ((us.map fun e => [e.1, e.2]).map dT), dT b]) = decide (ts = us ∧ a = b) := by
    have e1 := eqv_lots (ts.map fun e => [e.1, e.2]) (us.map fun e => [e.1, e.2])
    have e2 : decide ((ts.map fun e => [e.1, e.2]) = us.map fun e => [e.1, e.2]) = decide (ts = us) := decide_eq_decide.mpr ⟨pairs_inj, fun h => by rw [h]⟩
    simp only [PySem.PyData.eqv, PySem.PyData.eqvAll, e1, e2, eqv_dT]
    by_cases h1 : ts = us <;> by_cases h2 : a = b <;> simp [h1, h2]
  rw [e]
  exact h

abbrev s_law_caught : Stmt := topS 23
theorem sc_law_caught : FnScope ["work", "caught", "error"] ["work"] (defScope s_law_caught) := ⟨rfl, rfl, rfl, by decide +kernel, rfl, by decide +kernel, by decide +kernel⟩
abbrev s_law_told : Stmt := topS 31
theorem sc_law_told : FnScope ["work", "found", "caught", "error"] ["work"] (defScope s_law_told) := ⟨rfl, rfl, rfl, by decide +kernel, rfl, by decide +kernel, by decide +kernel⟩
def ds_is_number : DSp0 := fun ss n P => ∃ d, ss = [.d d] ∧ bareD d ∧ P (.bl (isInt d)) n
theorem len_is_number : ∀ ss n P, ds_is_number ss n P → ss.length = 1 := by rintro ss n P ⟨d, rfl, _⟩; rfl

def ds_is_between : DSp0 := fun ss n P => ∃ d lo hi, ss = [.d d, .d (.int lo), .d (.int hi)] ∧ bareD d ∧ P (.bl (betw lo hi d)) n
theorem len_is_between : ∀ ss n P, ds_is_between ss n P → ss.length = 3 := by rintro ss n P ⟨d, lo, hi, rfl, _⟩; rfl

def ds_law_is_whole : DSp0 := fun ss n P => ∃ d, ss = [.d d] ∧ bareD d ∧ P (.bl (isInt d)) n
theorem len_law_is_whole : ∀ ss n P, ds_law_is_whole ss n P → ss.length = 1 := by rintro ss n P ⟨d, rfl, _⟩; rfl

def ds_law_is_below : DSp0 := fun ss n P => ∃ d k, ss = [.d d, .d (.int k)] ∧ bareD d ∧ P (.bl (betw 0 (k - 1) d)) n
theorem len_law_is_below : ∀ ss n P, ds_law_is_below ss n P → ss.length = 2 := by rintro ss n P ⟨d, hi, rfl, _⟩; rfl

def ds_law_less : DSp0 := fun ss n P => ∃ xs i, ss = [.d (.tup xs), .d (.int (i : Nat))] ∧ i < xs.length ∧ xs.length ≤ 100 ∧ P (.tup (xs.take i ++ xs.drop (i + 1))) n
theorem len_law_less : ∀ ss n P, ds_law_less ss n P → ss.length = 2 := by rintro ss n P ⟨d, hi, rfl, _⟩; rfl

def ds_law_put : DSp0 := fun ss n P => ∃ xs i d, ss = [.d (.tup xs), .d (.int (i : Nat)), .d d] ∧ i < xs.length ∧ xs.length ≤ 100 ∧ P (.tup (xs.take i ++ [d] ++ xs.drop (i + 1))) n
theorem len_law_put : ∀ ss n P, ds_law_put ss n P → ss.length = 3 := by rintro ss n P ⟨xs, hi, d, rfl, _⟩; rfl

def ds_law_draw : DSp0 := fun ss n P => ∃ z, ss = [.st, .d (.int z)] ∧ 0 < z ∧ z < 1073741824 ∧ n < LIM ∧ ∀ r n', 0 ≤ r → r < z → n' ≤ n + 1 → P (.int r) n'
theorem len_law_draw : ∀ ss n P, ds_law_draw ss n P → ss.length = 2 := by rintro ss n P ⟨z, rfl, _⟩; rfl

def ds_law_pick : DSp0 := fun ss n P => ∃ xs, (ss = [.st, .d (.tup xs)] ∨ ss = [.st, .d (.lst xs)]) ∧ 0 < xs.length ∧ xs.length ≤ 1000 ∧ n < LIM ∧ ∀ x ∈ xs, ∀ n', n' ≤ n + 1 → P x n'
theorem len_law_pick : ∀ ss n P, ds_law_pick ss n P → ss.length = 2 := by rintro ss n P ⟨xs, rfl | rfl, _⟩ <;> rfl

def ds_law_odd : DSp0 := fun ss n P => ss = [.st] ∧ n < LIM ∧ ∀ d n', n' ≤ n + 1 → nx d = true ∧ short2 d = true ∧ shortD d = true → (∀ m, partsB m d = false) → P d n'
theorem len_law_odd : ∀ ss n P, ds_law_odd ss n P → ss.length = 1 := by rintro ss n P ⟨rfl, _⟩; rfl



def ds_is_rising : DSp0 := fun ss n P => (∃ ns : List Int, ss = [.d (.tup (ns.map D.int))] ∧ ns.length ≤ 100 ∧ P (.bl (risB ns)) n) ∨ (∃ nss : List (List Int), ss = [.d (.tup (nss.map tupI))] ∧ nss.length ≤ 100 ∧ P (.bl (risL nss)) n)
theorem len_is_rising : ∀ ss n P, ds_is_rising ss n P → ss.length = 1 := by rintro ss n P (⟨ns, rfl, _⟩ | ⟨ns, rfl, _⟩) <;> rfl

def ds_is_lot : DSp0 := fun ss n P => ∃ (d : D) (lo hi : Int), ss = [.d d, .d (.int lo), .d (.int hi)] ∧ nx d = true ∧ shortD d = true ∧ P (.bl (lotB2 lo hi d)) n
theorem len_is_lot : ∀ ss n P, ds_is_lot ss n P → ss.length = 3 := by rintro ss n P ⟨d, lo, hi, rfl, _⟩; rfl

def ds_law_mixed : DSp0 := fun ss n P => ∃ xs, (ss = [.st, .d (.lst xs)] ∨ ss = [.st, .d (.tup xs)]) ∧ xs.length ≤ 100 ∧ n + 200 < LIM ∧ ∀ ys n', ys.Perm xs → n' ≤ n + xs.length → P (.lst ys) n'
theorem len_law_mixed : ∀ ss n P, ds_law_mixed ss n P → ss.length = 2 := by rintro ss n P ⟨xs, rfl | rfl, _⟩ <;> rfl

def ds_ties_at : DSp0 := fun ss n P => ∃ (ts : List (Int × Int)) (p : Int), ss = [.d (.tup (ts.map pairI)), .d (.int p)] ∧ ts.length ≤ 100 ∧ P (.lst ((ts.filter (atB p)).map pairI)) n
theorem len_ties_at : ∀ ss n P, ds_ties_at ss n P → ss.length = 2 := by rintro ss n P ⟨ts, p, rfl, _⟩; rfl

def ds_steps_to : DSp0 := fun ss n P => ∃ (ts : List (Int × Int)) (goal : Int), ss = [.d (.tup (ts.map pairI)), .d (.int goal)] ∧ TsOk ts ∧ 0 ≤ goal ∧ goal ≤ (ts.length : Int) ∧ ∀ ks vs : List Int, StepsOk ts goal ks vs → P (.dic (ks.map keyI) (vs.map .int)) n
theorem len_steps_to : ∀ ss n P, ds_steps_to ss n P → ss.length = 2 := by rintro ss n P ⟨ts, p, rfl, _⟩; rfl

noncomputable def ds_are_ties : DSp0 := fun ss n P => ∃ d, ss = [.d d] ∧ nx d = true ∧ short2 d = true ∧ P (.bl (tiesB d)) n
theorem len_are_ties : ∀ ss n P, ds_are_ties ss n P → ss.length = 1 := by rintro ss n P ⟨d, rfl, _⟩; rfl

def ds_are_seats : DSp0 := fun ss n P => ∃ (ts : List (Int × Int)) (d : D), ss = [.d (.tup (ts.map pairI)), .d d] ∧ ts.length ≤ 21 ∧ nx d = true ∧ P (.bl (seatsB ts d)) n
theorem len_are_seats : ∀ ss n P, ds_are_seats ss n P → ss.length = 2 := by rintro ss n P ⟨ts, d, rfl, _⟩; rfl

noncomputable def ds_Tree_init (cs : Cs) : DSI := fun ss n P XP => ∃ a b, ss = [.d a, .d b] ∧ nx a = true ∧ short2 a = true ∧ nx b = true ∧ (tiesB a = false ∧ XP cs.BadTies [] [] n ∨ ∃ ts, a = .tup (ts.map pairI) ∧ TiesOk ts ∧ (seatsB ts b = false ∧ XP cs.BadSeats [] [] n ∨ seatsB ts b = true ∧ P tR [a, b] n))
theorem len_Tree_init (cs : Cs) : ∀ ss n P XP, ds_Tree_init cs ss n P XP → ss.length + 1 = 3 := by rintro ss n P XP ⟨k, r, rfl, _⟩; rfl

def ds_law_grown (cs : Cs) : DSp0 := fun ss n P => ∃ (ts : List (Int × Int)) (seats : List Int), ss = [.d (.tup [.tup (ts.map pairI), tupI seats])] ∧ TiesOk ts ∧ SeatsOk ts seats ∧ P (treeD cs.Tree ts seats) n
theorem len_law_grown (cs : Cs) : ∀ ss n P, ds_law_grown cs ss n P → ss.length = 1 := by rintro ss n P ⟨ts, seats, rfl, _⟩; rfl

def ds_law_normal : DSp0 := fun ss n P => ∃ (many : Nat) (ls : List (List Int)), ss = [.d (.int many), .d (.tup (ls.map tupI))] ∧ many ≤ 12 ∧ Fam many ls ∧ ∀ ts, NormT ls ts → P (.tup [.tup (ts.map pairI), tupI (seatsN ls many)]) n
theorem len_law_normal : ∀ ss n P, ds_law_normal ss n P → ss.length = 2 := by rintro ss n P ⟨m, ls, rfl, _⟩; rfl

def ds_law_some_partings : DSp0 := fun ss n P => ∃ many : Nat, ss = [.st, .d (.int many)] ∧ 1 ≤ many ∧ many ≤ 12 ∧ n + 500 < LIM ∧ ∀ (ls : List (List Int)) n', Fam many ls → risL ls = true → n' ≤ n + 200 → P (.tup (ls.map tupI)) n'
theorem len_law_some_partings : ∀ ss n P, ds_law_some_partings ss n P → ss.length = 2 := by rintro ss n P ⟨m, rfl, _⟩; rfl

def ds_law_swelled : DSp0 := fun ss n P => ∃ (ls : List (List Int)), ss = [.st, .d (.tup (ls.map tupI))] ∧ ls.length ≤ 21 ∧ (∀ l ∈ ls, l.length ≤ 12 ∧ 1 ≤ l.length) ∧ n + 500 < LIM ∧ ∀ d n', nx d = true → short2 d = true → n' ≤ n + 200 → P d n'
theorem len_law_swelled : ∀ ss n P, ds_law_swelled ss n P → ss.length = 2 := by rintro ss n P ⟨ls, rfl, _⟩; rfl

def ds_law_renumbered : DSp0 := fun ss n P => ∃ (os : List Int) (ts : List (Int × Int)) (seats : List Int), ss = [.d (.lst (os.map D.int)), .d (.tup [.tup (ts.map pairI), tupI seats])] ∧ TiesOk ts ∧ SeatsOk ts seats ∧ os.Perm (upTo ts.length) ∧ ∀ us, RenT (oOf os) ts us → P (.tup [.tup (us.map pairI), tupI (seats.map (oOf os))]) n
theorem len_law_renumbered : ∀ ss n P, ds_law_renumbered ss n P → ss.length = 2 := by rintro ss n P ⟨os, ts, seats, rfl, _⟩; rfl

def ds_law_shuffled : DSp0 := fun ss n P => ∃ (ts : List (Int × Int)) (seats : List Int), ss = [.st, .d (.tup [.tup (ts.map pairI), tupI seats])] ∧ TiesOk ts ∧ SeatsOk ts seats ∧ n + 300 < LIM ∧ ∀ us seats' n', TiesOk us → SeatsOk us seats' → us.length = ts.length → seats'.length = seats.length → (∀ m ls, Told m ls ts seats → Told m ls us seats') → n' ≤ n + 30 → P (.tup [.tup (us.map pairI), tupI seats']) n'
theorem len_law_shuffled : ∀ ss n P, ds_law_shuffled ss n P → ss.length = 2 := by rintro ss n P ⟨ts, seats, rfl, _⟩; rfl

def ds_law_shape : DSp0 := fun ss n P => ∃ many : Nat, ss = [.st, .d (.int many)] ∧ 1 ≤ many ∧ many ≤ 12 ∧ n + 1000 < LIM ∧ ∀ ts seats ls n', TiesOk ts → SeatsOk ts seats → seats.length = many → Told many ls ts seats → risL ls = true → n' ≤ n + 300 → P (.tup [.tup (ts.map pairI), tupI seats]) n'
theorem len_law_shape : ∀ ss n P, ds_law_shape ss n P → ss.length = 2 := by rintro ss n P ⟨m, rfl, _⟩; rfl

def ds_Tree_eq (cs : Cs) : DSp0 := fun ss n P => ∃ (ts : List (Int × Int)) (seats : List Int) (d : D), ss = [.d (treeD cs.Tree ts seats), .d d] ∧ ((∃ us sts, d = treeD cs.Tree us sts ∧ P (.bl (decide (ts = us) && decide (seats = sts))) n) ∨ nx d = true ∧ NotIns d ∧ P (.bl false) n)
theorem len_Tree_eq (cs : Cs) : ∀ ss n P, ds_Tree_eq cs ss n P → ss.length = 2 := by rintro ss n P ⟨ts, seats, d, rfl, _⟩; rfl

noncomputable def ds_law_joins : DSp0 := fun ss n P => ∃ ts : List (Int × Int), ss = [.d (.lst ((upTo ts.length).map D.int)), .d (.tup (ts.map pairI))] ∧ ts.length ≤ 21 ∧ PairsB ts ∧ P (.bl (connB ts)) n
theorem len_law_joins : ∀ ss n P, ds_law_joins ss n P → ss.length = 2 := by rintro ss n P ⟨ts, rfl, _⟩; rfl

noncomputable def ds_law_are_ties : DSp0 := fun ss n P => ∃ d, ss = [.d d] ∧ nx d = true ∧ short2 d = true ∧ P (.bl (tiesB d)) n
theorem len_law_are_ties : ∀ ss n P, ds_law_are_ties ss n P → ss.length = 1 := by rintro ss n P ⟨d, rfl, _⟩; rfl

def ds_law_are_seats : DSp0 := fun ss n P => ∃ (ts : List (Int × Int)) (d : D), ss = [.d (.tup (ts.map pairI)), .d d] ∧ ts.length ≤ 21 ∧ nx d = true ∧ shortS d = true ∧ P (.bl (seatsB ts d)) n
theorem len_law_are_seats : ∀ ss n P, ds_law_are_seats ss n P → ss.length = 2 := by rintro ss n P ⟨ts, d, rfl, _⟩; rfl

def ds_law_seats_bent : DSp0 := fun ss n P => ∃ (ts : List (Int × Int)) (seats : List Int), ss = [.st, .d (.tup [.tup (ts.map pairI), tupI seats])] ∧ ts.length ≤ 21 ∧ 1 ≤ seats.length ∧ seats.length ≤ 12 ∧ n + 100 < LIM ∧ ∀ d n', nx d = true → shortS d = true → n' ≤ n + 50 → P d n'
theorem len_law_seats_bent : ∀ ss n P, ds_law_seats_bent ss n P → ss.length = 2 := by rintro ss n P ⟨ts, seats, rfl, _⟩; rfl

def ds_law_equal_apart (cs : Cs) : DSp0 := fun ss n P => ∃ (ts us : List (Int × Int)) (seats sts : List Int), ss = [.st, .d (treeD cs.Tree ts seats), .d (.tup [.tup (ts.map pairI), tupI seats]), .d (.tup [.tup (us.map pairI), tupI sts])] ∧ TiesOk ts ∧ SeatsOk ts seats ∧ TiesOk us ∧ SeatsOk us sts ∧ n + 300 < LIM ∧ ∀ n', n' ≤ n + 50 → P (.bl true) n'
theorem len_law_equal_apart (cs : Cs) : ∀ ss n P, ds_law_equal_apart cs ss n P → ss.length = 4 := by rintro ss n P ⟨ts, us, seats, sts, rfl, _⟩; rfl



end Lw

namespace Lw
open L2 PySem DL
local macro_rules | `(tactic| walk_at "dl") => `(tactic| simp only [xsSeq, xCmpA, xnAddO, xCmpO, xTold, xsNext, xsSet, xsRet, xsIf, xsPar, xsFor, xVar, xC, xaNil, xaCons, xaSt, xOp, xUn, xCB, xB, xtAnd, xtOr, xtNot, xAndV, xNotV, xIf, xTup, xLst, xChain, xSl, xoNone, xoSome, xCall0, xIsT, xIs, xFld, xDisp, xPairs, xDNew, xLc, xnLc, xtYes, xgName, xgTwo, xiRange1, xiRange2, xiZip, xsSetO, xLenO, xTupO, xsAppO, xsMe, xMake, xsAsgG, xjOwn, xLam, xStLeft, xStTurn, xStCells, xsStLeft, xsStTurn, xsLoop, xsRaise, startS, slotD_zero, slotD_succ, slotO_zero, slotO_succ, List.length_cons, List.length_nil, List.replicate, List.cons_append, List.nil_append, List.set, wipeS, addD, subD, intD, cmpD, mulD, isnD, ixD, slD, lenD, tupD, lstD, int1D, maxD, minD, negD, one1, two2, noOl, true_and, List.map_cons, List.map_nil, eqD, neD, eqP_int, eqP_bl, eqP_str, id, isTy, beq_self_eq_true, Bool.not_true, Bool.not_false, allD, svD, CPow, CMul, xStCells, Option.some.injEq, exists_eq_left', isSt, List.getElem?_cons_zero, List.getElem?_cons_succ, Nat.reduceAdd, Nat.reduceSub, Nat.sub_self, List.replicate_succ, List.replicate_zero, List.append_nil, Nat.zero_add, keyD, Nat.reduceLeDiff, Nat.zero_le, exists_and_left, vd_k, vd_r, xsWhile, xsParM, xmD, xmN, xnNil, xnLst, xnList, xsFrz, xtView, xsAppPop, xsAppO, xiEnum, xsSetD, xsRetE, slotE_zero, slotE_succ, noOd, isOd, fldD, gpI, ds0, xRevT, neNilD, xListRng, sortTD, sortTID, ltUD, geUD, pairD, xRevL, xsSetPop0, xsSetPop, xtNotInE, xsPutK, slotT_zero, slotT_succ, addLD, inLI, notInD, lenKD, Bool.and_self, Bool.and_true, Bool.true_and, List.set_cons_zero, List.set_cons_succ])
section
variable {P : Program} {w : PySem.World} {K : PySem.W.Frag} {mg : Str → Option Value} {base : Heap} {TT : Tb} {cs : Cs} {tk0 : Tk}
abbrev s_is_number : Stmt := topS 5
theorem sc_is_number : FnScope ["thing"] ["thing"] (defScope s_is_number) := ⟨rfl, rfl, rfl, by decide +kernel, rfl, by decide +kernel, by decide +kernel⟩
theorem ok_is_number (T : Txt K mg cs tk0) (D : DefAt K mg "is_number" s_is_number ["thing"]) : Has P w K mg base CX0 1 "is_number" ["thing"] (sp0 K TT ds_is_number) := by
  obtain ⟨f, fd, F, hm, hk, hb⟩ := D
  refine ⟨f, fd, F.okD sc_is_number (len_is_number) (fun S cdv A outer s H E hr => ?_), hm, hk, hb⟩
  refine ⟨_, _, (pss_one (ps_ret (pe_and (pe_callB call_isD (by rfl) T.n_isinstance (by decide +kernel) (pa_cons (pv 0) (pa_cons (pe_bltn rfl T.n_int (by decide +kernel) (v := .ty "int") rfl) pa_nil))) (pe_one (pe_not (pe_callB call_isD (by rfl) T.n_isinstance (by decide +kernel) (pa_cons (pv 0) (pa_cons (pe_bltn rfl T.n_bool (by decide +kernel) (v := .ty "bool") rfl) pa_nil)))))))),
    (rds_ret (rd_andV (rd_isT (by decide) (rd_var (i := 0))) (rd_notV (rd_isT (by decide) (rd_var (i := 0)))))), ?_⟩
  rintro ss n P ⟨d, rfl, hb, p⟩
  walk_at "dl"
  refine ⟨hb, ?_⟩
  cases d <;> first | exact p | exact ⟨hb, p⟩

abbrev s_is_between : Stmt := topS 6
theorem sc_is_between : FnScope ["thing", "low", "high"] ["thing", "low", "high"] (defScope s_is_between) := ⟨rfl, rfl, rfl, by decide +kernel, rfl, by decide +kernel, by decide +kernel⟩
theorem ok_is_between (T : Txt K mg cs tk0) (D : DefAt K mg "is_between" s_is_between ["thing", "low", "high"]) (c_is_number : Has P w K mg base CX0 1 "is_number" ["thing"] (sp0 K TT ds_is_number)) : Has P w K mg base CX0 2 "is_between" ["thing", "low", "high"] (sp0 K TT ds_is_between) := by
  obtain ⟨f, fd, F, hm, hk, hb⟩ := D
  obtain ⟨_, _, c_is_number_ok, c_is_number_m, c_is_number_k, c_is_number_b⟩ := c_is_number
  refine ⟨f, fd, F.okD sc_is_between (len_is_between) (fun S cdv A outer s H E hr => ?_), hm, hk, hb⟩
  refine ⟨_, _, (pss_one (ps_ret (pe_and (pe_call c_is_number_ok (hr.mono (by decide)) rfl c_is_number_m c_is_number_k c_is_number_b .nil pass0 (pa_cons (pv 0) pa_nil)) (pe_one (pe_chain op_le op_le (pv 1) (pv 0) (pv 2)))))),
    (rds_ret (rd_andV (rd_call0 (E := E0) (rda_cons (rd_var (i := 0)) rda_nil)) (rd_chain o2_cmp o2_cmp (rd_var (i := 1)) (rd_var (i := 0)) (rd_var (i := 2))))), ?_⟩
  rintro ss n P ⟨d, lo, hi, rfl, hb, p⟩
  walk_at "dl"
  refine ⟨d, rfl, hb, ?_⟩
  cases d with
  | int i =>
    simp only [isInt]
    by_cases h1 : lo ≤ i
    · simp only [h1, decide_true]
      simpa [betw, h1] using p
    · simp only [h1, decide_false]
      simpa [betw, h1] using p
  | _ => exact p

abbrev s_law_is_whole : Stmt := topS 24
theorem sc_law_is_whole : FnScope ["item"] ["item"] (defScope s_law_is_whole) := ⟨rfl, rfl, rfl, by decide +kernel, rfl, by decide +kernel, by decide +kernel⟩
theorem ok_law_is_whole (T : Txt K mg cs tk0) (D : DefAt K mg "_law_is_whole" s_law_is_whole ["item"]) : Has P w K mg base CX0 1 "_law_is_whole" ["item"] (sp0 K TT ds_law_is_whole) := by
  obtain ⟨f, fd, F, hm, hk, hb⟩ := D
  refine ⟨f, fd, F.okD sc_law_is_whole (len_law_is_whole) (fun S cdv A outer s H E hr => ?_), hm, hk, hb⟩
  refine ⟨_, _, (pss_one (ps_ret (pe_and (pe_callB call_isD (by rfl) T.n_isinstance (by decide +kernel) (pa_cons (pv 0) (pa_cons (pe_bltn rfl T.n_int (by decide +kernel) (v := .ty "int") rfl) pa_nil))) (pe_one (pe_not (pe_callB call_isD (by rfl) T.n_isinstance (by decide +kernel) (pa_cons (pv 0) (pa_cons (pe_bltn rfl T.n_bool (by decide +kernel) (v := .ty "bool") rfl) pa_nil)))))))),
    (rds_ret (rd_andV (rd_isT (by decide) (rd_var (i := 0))) (rd_notV (rd_isT (by decide) (rd_var (i := 0)))))), ?_⟩
  rintro ss n P ⟨d, rfl, hb, p⟩
  walk_at "dl"
  refine ⟨hb, ?_⟩
  cases d <;> first | exact p | exact ⟨hb, p⟩

abbrev s_law_is_below : Stmt := topS 25
theorem sc_law_is_below : FnScope ["item", "size_here"] ["item", "size_here"] (defScope s_law_is_below) := ⟨rfl, rfl, rfl, by decide +kernel, rfl, by decide +kernel, by decide +kernel⟩
theorem ok_law_is_below (T : Txt K mg cs tk0) (D : DefAt K mg "_law_is_below" s_law_is_below ["item", "size_here"]) (c_law_is_whole : Has P w K mg base CX0 1 "_law_is_whole" ["item"] (sp0 K TT ds_law_is_whole)) : Has P w K mg base CX0 2 "_law_is_below" ["item", "size_here"] (sp0 K TT ds_law_is_below) := by
  obtain ⟨f, fd, F, hm, hk, hb⟩ := D
  obtain ⟨_, _, c_law_is_whole_ok, c_law_is_whole_m, c_law_is_whole_k, c_law_is_whole_b⟩ := c_law_is_whole
  refine ⟨f, fd, F.okD sc_law_is_below (len_law_is_below) (fun S cdv A outer s H E hr => ?_), hm, hk, hb⟩
  refine ⟨_, _, (pss_one (ps_ret (pe_and (pe_call c_law_is_whole_ok (hr.mono (by decide)) rfl c_law_is_whole_m c_law_is_whole_k c_law_is_whole_b .nil pass0 (pa_cons (pv 0) pa_nil)) (pe_one (pe_chain op_le op_lt pe_int (pv 0) (pv 1)))))),
    (rds_ret (rd_andV (rd_call0 (E := E0) (rda_cons (rd_var (i := 0)) rda_nil)) (rd_chain o2_cmp o2_cmp rd_int (rd_var (i := 0)) (rd_var (i := 1))))), ?_⟩
  rintro ss n P ⟨d, hi, rfl, hb, p⟩
  walk_at "dl"
  refine ⟨d, rfl, hb, ?_⟩
  cases d with
  | int i =>
    simp only [isInt]
    by_cases h1 : 0 ≤ i
    · simp only [h1, decide_true]
      have e : decide (i ≤ hi - 1) = decide (i < hi) := by simp; omega
      simpa [betw, h1, e] using p
    · simp only [h1, decide_false]
      simpa [betw, h1] using p
  | _ => exact p

abbrev s_law_less : Stmt := topS 27
theorem sc_law_less : FnScope ["row", "spot"] ["row", "spot"] (defScope s_law_less) := ⟨rfl, rfl, rfl, by decide +kernel, rfl, by decide +kernel, by decide +kernel⟩
theorem ok_law_less (T : Txt K mg cs tk0) (D : DefAt K mg "_law_less" s_law_less ["row", "spot"]) : Has P w K mg base CX0 1 "_law_less" ["row", "spot"] (sp0 K TT ds_law_less) := by
  obtain ⟨f, fd, F, hm, hk, hb⟩ := D
  refine ⟨f, fd, F.okD sc_law_less (len_law_less) (fun S cdv A outer s H E hr => ?_), hm, hk, hb⟩
  refine ⟨_, _, (pss_one (ps_ret (pe_op op_addU (pe_slice sl_U (pv 0) po_none (po_some (pv 1))) (pe_slice sl_U (pv 0) (po_some (pe_op op_addU (pv 1) pe_int)) po_none)))),
    (rds_ret (rd_op o2_add (rd_sl (rd_var (i := 0)) rdo_none (rdo_some (rd_var (i := 1)))) (rd_sl (rd_var (i := 0)) (rdo_some (rd_op o2_add (rd_var (i := 1)) rd_int)) rdo_none))), ?_⟩
  rintro ss n P ⟨xs, i, rfl, hi, hl, p⟩
  walk_at "dl"
  rw [cut_to, cut_from1]
  exact ⟨by simp; omega, p⟩

abbrev s_law_put : Stmt := topS 28
theorem sc_law_put : FnScope ["row", "spot", "item"] ["row", "spot", "item"] (defScope s_law_put) := ⟨rfl, rfl, rfl, by decide +kernel, rfl, by decide +kernel, by decide +kernel⟩
theorem ok_law_put (T : Txt K mg cs tk0) (D : DefAt K mg "_law_put" s_law_put ["row", "spot", "item"]) : Has P w K mg base CX0 1 "_law_put" ["row", "spot", "item"] (sp0 K TT ds_law_put) := by
  obtain ⟨f, fd, F, hm, hk, hb⟩ := D
  refine ⟨f, fd, F.okD sc_law_put (len_law_put) (fun S cdv A outer s H E hr => ?_), hm, hk, hb⟩
  refine ⟨_, _, (pss_one (ps_ret (pe_op op_addU (pe_op op_addU (pe_slice sl_U (pv 0) po_none (po_some (pv 1))) (pe_tup (pa_cons (pv 2) pa_nil))) (pe_slice sl_U (pv 0) (po_some (pe_op op_addU (pv 1) pe_int)) po_none)))),
    (rds_ret (rd_op o2_add (rd_op o2_add (rd_sl (rd_var (i := 0)) rdo_none (rdo_some (rd_var (i := 1)))) (rd_tup (rda_cons (rd_var (i := 2)) rda_nil))) (rd_sl (rd_var (i := 0)) (rdo_some (rd_op o2_add (rd_var (i := 1)) rd_int)) rdo_none))), ?_⟩
  rintro ss n P ⟨xs, i, d, rfl, hi, hl, p⟩
  walk_at "dl"
  rw [cut_to, cut_from1]
  exact ⟨by simp; omega, by simp; omega, p⟩

abbrev s_law_draw : Stmt := topS 20
theorem sc_law_draw : FnScope ["state", "size_here", "turn", "cell", "mixed", "found"] ["state", "size_here"] (defScope s_law_draw) := ⟨rfl, rfl, rfl, by decide +kernel, rfl, by decide +kernel, by decide +kernel⟩
theorem ok_law_draw (T : Txt K mg cs tk0) (D : DefAt K mg "_law_draw" s_law_draw ["state", "size_here"]) : Has P w K mg base CX0 1 "_law_draw" ["state", "size_here"] (sp0 K TT ds_law_draw) := by
  obtain ⟨f, fd, F, hm, hk, hb⟩ := D
  refine ⟨f, fd, F.okD sc_law_draw (len_law_draw) (fun S cdv A outer s H E hr => ?_), hm, hk, hb⟩
  refine ⟨_, _, (pss_cons (ps_while PassesOwn.never (PW.pt (pw_and (pt_cmpR (op_eqD hr.units) (pe_dget (hu_of hr) (pv 0) pe_str (fun _ _ => rfl)) pe_int (nomark _)) (pw_and1 (pt_cmpR (op_neD hr.units) (pe_dget (hu_of hr) (pv 0) pe_str (fun _ _ => rfl)) (pe_lst pa_nil) (nomark _))))) (pss_one (ps_dput (hu_of hr) (pv 0) pe_str (pe_bm PySem.F.plainAttrs_list PySem.F.slot_list_pop PySem.F.type_list_pop mt_popAt (pe_dget (hu_of hr) (pv 0) pe_str (fun _ _ => rfl)) (pa_cons pe_int pa_nil)) rfl)))
      (pss_cons (ps_if (pt_cmpR op_gt (pe_dget (hu_of hr) (pv 0) pe_str (fun _ _ => rfl)) pe_int (nomark _)) (pss_cons (ps_set (i := 5) sc_law_draw.nd rfl (by first | exact Or.inl rfl | exact Or.inr rfl) (pe_op op_modN (pe_callTy call_rInt1 (by rfl) T.n_int (by decide +kernel) (pa_cons (pe_dget (hu_of hr) (pv 0) pe_str (fun _ _ => rfl)) pa_nil)) (pv 1)))
      (pss_cons (ps_dput (hu_of hr) (pv 0) pe_str (pe_op op_fdivN (pe_dget (hu_of hr) (pv 0) pe_str (fun _ _ => rfl)) (pv 1)) rfl)
      (pss_one (ps_ret (pv 5))))) pss_nil)
      (pss_cons (ps_set (i := 2) sc_law_draw.nd rfl (by first | exact Or.inl rfl | exact Or.inr rfl) (pe_op op_addU (pe_dget (hu_of hr) (pv 0) pe_str (fun _ _ => rfl)) pe_int))
      (pss_cons (ps_dput (hu_of hr) (pv 0) pe_str (pv 2) rfl)
      (pss_cons (ps_set (i := 3) sc_law_draw.nd rfl (by first | exact Or.inl rfl | exact Or.inr rfl) (pe_ifExp (pt_cmpR (op_neU hr.units) (pe_dget (hu_of hr) (pv 0) pe_str (fun _ _ => rfl)) (pe_lst pa_nil) (nomark _)) (pe_ix ix_seq (pe_dget (hu_of hr) (pv 0) pe_str (fun _ _ => rfl)) (pe_op op_modN (pe_callTy call_rInt1 (by rfl) T.n_int (by decide +kernel) (pa_cons (pv 2) pa_nil)) (pe_callB call_lenU (by rfl) T.n_len (by decide +kernel) (pa_cons (pe_dget (hu_of hr) (pv 0) pe_str (fun _ _ => rfl)) pa_nil))) (fun _ _ => rfl)) pe_int))
      (pss_cons (ps_set (i := 4) sc_law_draw.nd rfl (by first | exact Or.inl rfl | exact Or.inr rfl) (pe_op op_modN (pe_callTy call_rInt1 (by rfl) T.n_int (by decide +kernel) (pa_cons (pe_op op_pow (pe_op op_addU (pe_op op_addU (pe_op op_modN (pe_callTy call_rInt1 (by rfl) T.n_int (by decide +kernel) (pa_cons (pv 3) pa_nil)) pe_int) (pe_op op_mulU pe_int (pv 2))) pe_int) pe_int) pa_nil)) pe_int))
      (pss_one (ps_ret (pe_op op_modN (pe_callTy call_rInt1 (by rfl) T.n_int (by decide +kernel) (pa_cons (pe_op op_fdivN (pe_op op_modN (pe_callTy call_rInt1 (by rfl) T.n_int (by decide +kernel) (pa_cons (pe_op op_pow (pe_op op_addU (pv 4) (pe_op op_mulU pe_int (pv 2))) pe_int) pa_nil)) pe_int) pe_int) pa_nil)) (pv 1)))))))))),
    (rds_seq (rds_loop (i := 0))
      (rds_seq (rds_if (rdt_test (rd_op o2_cmp (rd_stLeft (i := 0)) rd_int)) (rds_seq (rds_set (rd_op o2_int (rd_cb cal_int (rda_cons (rd_stLeft (i := 0)) rda_nil)) (rd_var (i := 1))))
      (rds_seq (rds_stLeft (i := 0) (rd_op o2_int (rd_stLeft (i := 0)) (rd_var (i := 1))))
      (rds_ret (rd_var (i := 5))))) rds_next)
      (rds_seq (rds_set (rd_op o2_add (rd_stTurn (i := 0)) rd_int))
      (rds_seq (rds_stTurn (i := 0) (rd_var (i := 2)))
      (rds_seq (rds_set (rd_if (rdt_test (rd_op o2_ne (rd_stCells (i := 0)) (rd_lst rda_nil))) (rd_op o2_ix (rd_stCells (i := 0)) (rd_op o2_int (rd_cb cal_int (rda_cons (rd_var (i := 2)) rda_nil)) (rd_cb cal_len (rda_cons (rd_stCells (i := 0)) rda_nil)))) rd_int))
      (rds_seq (rds_set (rd_op o2_int (rd_cb cal_int (rda_cons (rd_op o2_int (rd_op o2_add (rd_op o2_add (rd_op o2_int (rd_cb cal_int (rda_cons (rd_var (i := 3)) rda_nil)) rd_int) (rd_op o2_mul rd_int (rd_var (i := 2)))) rd_int) rd_int) rda_nil)) rd_int))
      (rds_ret (rd_op o2_int (rd_cb cal_int (rda_cons (rd_op o2_int (rd_op o2_int (rd_cb cal_int (rda_cons (rd_op o2_int (rd_op o2_add (rd_var (i := 4)) (rd_op o2_mul rd_int (rd_var (i := 2)))) rd_int) rda_nil)) rd_int) rd_int) rda_nil)) (rd_var (i := 1)))))))))), ?_⟩
  rintro ss n P ⟨z, rfl, h0, h1, hn, p⟩
  have hn' : n < 1099511627776 := hn
  walk_at "dl"
  intro m hm
  by_cases hm0 : 0 < m
  · rw [show decide (0 < m) = true from decide_eq_true hm0]
    exact fun m hm => ⟨by omega, fun m1 hm1 => ⟨⟨by omega, by omega⟩, Int.fdiv_nonneg hm1 (by omega), p _ _ (Int.fmod_nonneg_of_pos _ h0) (Int.fmod_lt_of_pos _ h0) (by omega)⟩⟩
  · rw [show decide (0 < m) = false from decide_eq_false hm0]
    refine fun t ht => ⟨by omega, fun hc hl => eq_ints ?_⟩
    cases he : S.cs.isEmpty with
    | false =>
      refine fun _ _ _ _ => ⟨?_, ?_⟩
      · cases hcs : S.cs with
        | nil => rw [hcs] at he; cases he
        | cons a b => simp <;> omega
      · have hpos : (0 : Int) < S.cs.length := by
          cases hcs : S.cs with
          | nil => rw [hcs] at he; cases he
          | cons a b => simp <;> omega
        rw [List.length_map]
        obtain ⟨j, hj⟩ := Int.eq_ofNat_of_zero_le (Int.fmod_nonneg_of_pos ((t : Int) + 1) hpos)
        have hj2 := Int.fmod_lt_of_pos ((t : Int) + 1) hpos
        rw [hj] at hj2 ⊢
        have hj3 : j < S.cs.length := by omega
        have e : (S.cs.map D.int)[j]? = some (.int S.cs[j]) := by rw [List.getElem?_map, List.getElem?_eq_getElem hj3]; rfl
        refine ⟨_, at_nat e, ?_⟩
        clear hj hj2 e
        generalize S.cs[j] = c
        walk_at "dl"
        refine ⟨by decide, .inl ⟨by decide, by decide⟩, ⟨by decide, by decide, ?_⟩, by decide, .inl ⟨by decide, by decide⟩, ⟨by decide, by decide, ?_⟩, by decide, ⟨by decide, by decide⟩, by omega, p _ _ (Int.fmod_nonneg_of_pos _ h0) (Int.fmod_lt_of_pos _ h0) (by omega)⟩
        · have a1 := Int.fmod_nonneg_of_pos c (show (0 : Int) < 2147483563 by decide)
          have a2 := Int.fmod_lt_of_pos c (show (0 : Int) < 2147483563 by decide)
          omega
        · generalize (Int.fmod c 2147483563 + 40692 * ((t : Int) + 1) + 24681) ^ Int.toNat 3 = y
          have a1 := Int.fmod_nonneg_of_pos y (show (0 : Int) < 2147483629 by decide)
          have a2 := Int.fmod_lt_of_pos y (show (0 : Int) < 2147483629 by decide)
          omega
    | true =>
      walk_at "dl"
      refine ⟨by decide, .inl ⟨by decide, by decide⟩, ⟨by decide, by decide, ?_⟩, by decide, .inl ⟨by decide, by decide⟩, ⟨by decide, by decide, ?_⟩, by decide, ⟨by decide, by decide⟩, by omega, p _ _ (Int.fmod_nonneg_of_pos _ h0) (Int.fmod_lt_of_pos _ h0) (by omega)⟩
      · have a1 := Int.fmod_nonneg_of_pos 0 (show (0 : Int) < 2147483563 by decide)
        have a2 := Int.fmod_lt_of_pos 0 (show (0 : Int) < 2147483563 by decide)
        omega
      · generalize (Int.fmod 0 2147483563 + 40692 * ((t : Int) + 1) + 24681) ^ Int.toNat 3 = y
        have a1 := Int.fmod_nonneg_of_pos y (show (0 : Int) < 2147483629 by decide)
        have a2 := Int.fmod_lt_of_pos y (show (0 : Int) < 2147483629 by decide)
        omega

abbrev s_law_pick : Stmt := topS 21
theorem sc_law_pick : FnScope ["state", "several"] ["state", "several"] (defScope s_law_pick) := ⟨rfl, rfl, rfl, by decide +kernel, rfl, by decide +kernel, by decide +kernel⟩
theorem ok_law_pick (T : Txt K mg cs tk0) (D : DefAt K mg "_law_pick" s_law_pick ["state", "several"]) (c_law_draw : Has P w K mg base CX0 1 "_law_draw" ["state", "size_here"] (sp0 K TT ds_law_draw)) : Has P w K mg base CX0 2 "_law_pick" ["state", "several"] (sp0 K TT ds_law_pick) := by
  obtain ⟨f, fd, F, hm, hk, hb⟩ := D
  obtain ⟨_, _, c_law_draw_ok, c_law_draw_m, c_law_draw_k, c_law_draw_b⟩ := c_law_draw
  refine ⟨f, fd, F.okD sc_law_pick (len_law_pick) (fun S cdv A outer s H E hr => ?_), hm, hk, hb⟩
  refine ⟨_, _, (pss_one (ps_ret (pe_ix ix_seq (pv 1) (pe_call c_law_draw_ok (hr.mono (by decide)) rfl c_law_draw_m c_law_draw_k c_law_draw_b .nil pass0 (pa_cons (pv 0) (pa_cons (pe_callB call_lenU (by rfl) T.n_len (by decide +kernel) (pa_cons (pv 1) pa_nil)) pa_nil))) (fun _ _ => rfl)))),
    (rds_ret (rd_op o2_ix (rd_var (i := 1)) (rd_call0 (E := E0) (rda_st (i := 0) (rda_cons (rd_cb cal_len (rda_cons (rd_var (i := 1)) rda_nil)) rda_nil))))), ?_⟩
  rintro ss n P ⟨xs, hs, h0, h1, hn, p⟩
  have go : ∀ (r : Int) (n' : Nat), 0 ≤ r → r < xs.length → n' ≤ n + 1 → ∃ d, atD xs r = some d ∧ P d n' := fun r n' h2 h3 h4 => by
    obtain ⟨j, rfl⟩ := Int.eq_ofNat_of_zero_le h2
    have hj : j < xs.length := by omega
    exact ⟨xs[j], at_nat (List.getElem?_eq_getElem hj), p _ (List.getElem_mem hj) _ h4⟩
  rcases hs with rfl | rfl
  · walk_at "dl"
    exact ⟨_, rfl, by omega, by omega, hn, go⟩
  · walk_at "dl"
    exact ⟨_, rfl, by omega, by omega, hn, go⟩

abbrev s_law_odd : Stmt := topS 26
theorem sc_law_odd : FnScope ["state"] ["state"] (defScope s_law_odd) := ⟨rfl, rfl, rfl, by decide +kernel, rfl, by decide +kernel, by decide +kernel⟩
theorem ok_law_odd (T : Txt K mg cs tk0) (D : DefAt K mg "_law_odd" s_law_odd ["state"]) (c_law_pick : Has P w K mg base CX0 2 "_law_pick" ["state", "several"] (sp0 K TT ds_law_pick)) : Has P w K mg base CX0 3 "_law_odd" ["state"] (sp0 K TT ds_law_odd) := by
  obtain ⟨f, fd, F, hm, hk, hb⟩ := D
  obtain ⟨_, _, c_law_pick_ok, c_law_pick_m, c_law_pick_k, c_law_pick_b⟩ := c_law_pick
  refine ⟨f, fd, F.okD sc_law_odd (len_law_odd) (fun S cdv A outer s H E hr => ?_), hm, hk, hb⟩
  refine ⟨_, _, (pss_one (ps_ret (pe_call c_law_pick_ok (hr.mono (by decide)) rfl c_law_pick_m c_law_pick_k c_law_pick_b .nil pass0 (pa_cons (pv 0) (pa_cons (pe_lst (pa_cons pe_non (pa_cons pe_bl (pa_cons pe_bl (pa_cons pe_str (pa_cons pe_str (pa_cons (pe_lst pa_nil) (pa_cons pe_dnewK (pa_cons (pe_tup (pa_cons pe_non pa_nil)) (pa_cons (pe_tup (pa_cons pe_str (pa_cons pe_int pa_nil))) (pa_cons (pe_lst (pa_cons (pe_lst (pa_cons pe_int pa_nil)) pa_nil)) (pa_cons (pe_disp (pps_cons pe_int pe_int pps_nil) (by rfl) (by rfl) (fun z => by cases z) (by decide)) (pa_cons (pe_tup (pa_cons pe_bl pa_nil)) (pa_cons pe_int (pa_cons (pe_un un_neg pe_int) pa_nil))))))))))))))) pa_nil))))),
    (rds_ret (rd_call0 (E := E0) (rda_st (i := 0) (rda_cons (rd_lst (rda_cons rd_non (rda_cons rd_bl (rda_cons rd_bl (rda_cons rd_str (rda_cons rd_str (rda_cons (rd_lst rda_nil) (rda_cons rd_dnew (rda_cons (rd_tup (rda_cons rd_non rda_nil)) (rda_cons (rd_tup (rda_cons rd_str (rda_cons rd_int rda_nil))) (rda_cons (rd_lst (rda_cons (rd_lst (rda_cons rd_int rda_nil)) rda_nil)) (rda_cons (rd_disp (.cons rd_int rd_int .nil)) (rda_cons (rd_tup (rda_cons rd_bl rda_nil)) (rda_cons rd_int (rda_cons (rd_un o1_neg rd_int) rda_nil))))))))))))))) rda_nil)))), ?_⟩
  rintro ss n P ⟨rfl, hn, p⟩
  walk_at "dl"
  refine ⟨by simp, _, .inr rfl, by simp, by simp, hn, fun x hx n' h => p _ _ h ?_ ?_⟩
  · revert x
    simp [nx, nxs, short2, shortD]
  · intro m
    simp only [List.mem_cons, List.not_mem_nil, or_false] at hx
    rcases hx with rfl | rfl | rfl | rfl | rfl | rfl | rfl | rfl | rfl | rfl | rfl | rfl | rfl | rfl <;> rfl


abbrev s_law_begun : Stmt := topS 19
theorem sc_law_begun : FnScope ["script", "cells_here", "large", "cell"] ["script"] (defScope s_law_begun) := ⟨rfl, rfl, rfl, by decide +kernel, rfl, by decide +kernel, by decide +kernel⟩
theorem ok_law_begun (T : Txt K mg cs tk0) (D : DefAt K mg "_law_begun" s_law_begun ["script"]) : Has P w K mg base CX0 1 "_law_begun" ["script"] (spBegun K) := by
  obtain ⟨f, fd, F, hm, hk, hb⟩ := D
  refine ⟨f, fd, F.ok sc_law_begun (fun vs H Q E h => by obtain ⟨a, ns, rfl, _⟩ := h; rfl) (fun cdv A outer s H vs Q E hr h => ?_), hm, hk, hb⟩
  obtain ⟨a, ns, rfl, hS, hl, q⟩ := h
  refine ⟨_, (pss_cons (ps_setLc (i := 1) (own := [("cell", 3)]) (g := gName 3) rfl sc_law_begun.nd rfl rfl (sw_true rfl rfl rfl (by decide +kernel)) (pi_list (pv 0)) (blkOk_by (N := ["script", "cells_here", "large", "cell"]) (own := [("cell", 3)]) (sc := defScope s_law_begun) (by decide +kernel)) (fun _ _ _ _ _ => (pg_name (i := 3) sc_law_begun.nd rfl (by first | exact Or.inl rfl | exact Or.inr rfl))) (fun _ _ _ _ _ => pts_nil) (fun _ _ _ _ _ => (pe_callB call_rAbs (by rfl) T.n_abs (by decide +kernel) (pa_cons (pv 3) pa_nil))))
      (pss_cons (ps_setLc (i := 2) (own := [("cell", 3)]) (g := gName 3) rfl sc_law_begun.nd rfl rfl (sw_true rfl rfl rfl (by decide +kernel)) (pi_list (pv 1)) (blkOk_by (N := ["script", "cells_here", "large", "cell"]) (own := [("cell", 3)]) (sc := defScope s_law_begun) (by decide +kernel)) (fun _ _ _ _ _ => (pg_name (i := 3) sc_law_begun.nd rfl (by first | exact Or.inl rfl | exact Or.inr rfl))) (fun _ _ _ _ _ => (pts_one (pt_cmpR op_ge (pv 3) (pe_op op_pow pe_int pe_int) (nomark _)))) (fun _ _ _ _ _ => (pe_op op_sub (pv 3) (pe_op op_pow pe_int pe_int))))
      (pss_one (ps_ret (pe_disp (pps_cons pe_str (pv 2) (pps_cons pe_str (pv 1) (pps_cons pe_str pe_int (pps_cons pe_str pe_int pps_nil)))) (by rfl) (by rfl) (fun z => by cases z) (by decide)))))), ?_⟩
  refine ⟨.ref a, rfl, a, rfl, ⟨_, hS⟩, fun c hc => lc_list (xs := ns.map V.int) (fun i Hx => Hx = upd H c (.lst (((ns.take i).map absI).map V.int))) (by simp) ?_ ?_ ?_⟩
  · rintro i Hx hi rfl
    exact Evl.ex_l (Evl.Ex.new hc) hS
  · rintro i x Hx ex rfl
    rw [List.getElem?_map] at ex
    cases ez : ns[i]? with
    | none => rw [ez] at ex; cases ex
    | some z =>
      rw [ez] at ex
      cases ex
      refine ⟨rfl, ?_⟩
      unfold tYes
      dsimp only
      rw [if_pos rfl]
      refine ⟨_, rfl, z, rfl, _, upd_same, ?_, ?_⟩
      · have h1 : ((List.map V.int (List.map absI (List.take i ns))).length) ≤ 63 := by simp; omega
        exact Evl.sz_lt (by omega)
      · rw [upd_upd, List.take_add_one, ez]
        simp [absI]
  · rintro Hx rfl
    rw [List.length_map, List.take_length]
    generalize hcs : ns.map absI = cs
    have hz : cs.length ≤ 63 := by rw [← hcs, List.length_map]; exact hl
    have hp : ∀ x ∈ cs, 0 ≤ x := fun x hx => by
      rw [← hcs] at hx
      obtain ⟨z, _, rfl⟩ := List.mem_map.mp hx
      unfold absI
      split <;> omega
    have hbz : ∀ ys : List Int, (bigI ys).length ≤ ys.length := fun ys => by
      unfold bigI
      rw [List.length_map]
      exact List.length_filter_le _ _
    refine ⟨.ref c, rfl, c, rfl, ⟨_, SqL.of upd_same⟩, fun l hl' => lc_list (xs := cs.map V.int) (fun i Hx => Hx = upd (upd H c (.lst (cs.map V.int))) l (.lst ((bigI (cs.take i)).map V.int))) (by simp [bigI]) ?_ ?_ ?_⟩
    · rintro i Hx hi rfl
      exact Evl.ex_l (Evl.Ex.new hl') (SqL.of upd_same)
    · rintro i x Hx ex rfl
      rw [List.getElem?_map] at ex
      cases ez : cs[i]? with
      | none => rw [ez] at ex; cases ex
      | some z =>
        rw [ez] at ex
        cases ex
        have et : cs.take (i + 1) = cs.take i ++ [z] := by
          rw [List.take_add_one, ez]
          rfl
        refine ⟨rfl, ?_⟩
        refine ⟨_, rfl, 10, 18, rfl, rfl, ⟨by decide, by decide, by decide⟩, z, _, rfl, rfl, _, rfl, ?_⟩
        rw [et, bigI_snoc]
        have e18 : ((10 : Int) ^ Int.toNat 18) = 10 ^ 18 := rfl
        rw [e18]
        dsimp only
        by_cases h : (10 : Int) ^ 18 ≤ z
        · rw [if_pos (decide_eq_true h), if_pos h]
          refine ⟨_, rfl, 10, 18, rfl, rfl, ⟨by decide, by decide, by decide⟩, z, _, rfl, rfl, _, upd_same, ?_, ?_⟩
          · have h1 := hbz (cs.take i)
            have h2 : (cs.take i).length ≤ cs.length := by rw [List.length_take]; omega
            exact Evl.sz_lt (by rw [List.length_map]; omega)
          · rw [upd_upd, e18]
            simp
        · rw [if_neg (by simpa using h), if_neg h]
    · rintro Hx rfl
      rw [List.length_map, List.take_length]
      have hlc : c ≠ l := fun z => by rw [z, upd_same] at hl'; cases hl'
      have hl0 : H l = none := by rw [upd_ne hlc.symm] at hl'; exact hl'
      intro d hd
      have hdl : l ≠ d := fun z => by rw [z, upd_same] at hd; cases hd
      have hd1 : upd H c (.lst (cs.map V.int)) d = none := by rw [upd_ne hdl.symm] at hd; exact hd
      have hdc : c ≠ d := fun z => by rw [z, upd_same] at hd1; cases hd1
      have hd0 : H d = none := by rw [upd_ne hdc.symm] at hd1; exact hd1
      have em : mergeK [] (stBegun l c) = stBegun l c := by rfl
      have hb : ∀ x ∈ bigI cs, 0 ≤ x := fun x hx => by
        unfold bigI at hx
        obtain ⟨y, hy, rfl⟩ := List.mem_map.mp hx
        have h1 := (List.mem_filter.mp hy).2
        simp only [decide_eq_true_eq] at h1
        omega
      refine ⟨.ref l, rfl, .ref c, rfl, upd_same, stBegun l c, rfl, by simp [stBegun], ?_⟩
      rw [em, upd_upd]
      exact q c l d cs (bigI cs) _ hc hl0 hd0 hlc hdc hdl (by rw [upd_ne hdc, upd_ne hlc, upd_same]) (by rw [upd_ne hdl, upd_same]) upd_same (fun b h1 h2 h3 => by rw [upd_ne h3, upd_ne h2, upd_ne h1]) hp hb hz (Nat.le_trans (hbz cs) hz)

abbrev s_is_rising : Stmt := topS 7
theorem sc_is_rising : FnScope ["things", "lesser", "greater"] ["things"] (defScope s_is_rising) := ⟨rfl, rfl, rfl, by decide +kernel, rfl, by decide +kernel, by decide +kernel⟩
theorem ok_is_rising (T : Txt K mg cs tk0) (D : DefAt K mg "is_rising" s_is_rising ["things"]) : Has P w K mg base CX0 1 "is_rising" ["things"] (sp0 K TT ds_is_rising) := by
  obtain ⟨f, fd, F, hm, hk, hb⟩ := D
  refine ⟨f, fd, F.okD sc_is_rising (len_is_rising) (fun S cdv A outer s H E hr => ?_), hm, hk, hb⟩
  refine ⟨_, _, (pss_one (ps_ret (pe_callB (cr_all rfl) (by rfl) T.n_all (by decide +kernel) (pa_cons (pe_lc (own := [("lesser", 1), ("greater", 2)]) (g := gTup _ 2 (gCons (gName 1) (gCons (gName 2) gNil))) rfl sc_is_rising.nd (RZ.pi_zipA (by rfl) T.n_zip (pa_cons (pv 0) (pa_cons (pe_slice sl_U (pv 0) (po_some pe_int) po_none) pa_nil))) (blkOk_by (N := ["things", "lesser", "greater"]) (own := [("lesser", 1), ("greater", 2)]) (sc := defScope s_is_rising) (by decide +kernel)) (fun _ _ _ _ _ => (pg_tup rfl (pgs_cons (pg_name (i := 1) sc_is_rising.nd rfl (by first | exact Or.inl rfl | exact Or.inr rfl)) (pgs_cons (pg_name (i := 2) sc_is_rising.nd rfl (by first | exact Or.inl rfl | exact Or.inr rfl)) pgs_nil)))) (fun _ _ _ _ _ => pts_nil) (fun _ _ _ _ _ => (pe_cmpR (SCo.op_ltU hr.units0) (pv 1) (pv 2) (nomark _)))) pa_nil)))),
    (rds_ret (rd_cb cal_all (rda_cons (rd_lc (rdj_of (rdi_zip (rda_cons (rd_var (i := 0)) (rda_cons (rd_sl (rd_var (i := 0)) (rdo_some rd_int) rdo_none) rda_nil)))) (rdg_two (vs := [1, 2]) (by decide) (by decide)) rdt_yes (rd_op o2_ltU (rd_var (i := 1)) (rd_var (i := 2)))) rda_nil))), ?_⟩
  rintro ss n P (⟨ns, rfl, hl, p⟩ | ⟨nss, rfl, hl, p⟩)
  · walk_at "dl"
    rw [cut_from_one, rising_zip]
    refine ⟨by simp; omega, compM_map (f := fun d => match d with | .tup [.int a, .int b] => .bl (decide (a < b)) | _ => .non) (fun x hx n2 k q => ?_) ?_⟩
    · obtain ⟨⟨a, b⟩, _, rfl⟩ := List.mem_map.mp hx
      exact q
    · rw [List.map_map]
      refine ⟨(ns.zip (ns.drop 1)).map fun p => decide (p.1 < p.2), blsD_map, ?_⟩
      rw [all_map, risB_zip]
      exact p
  · walk_at "dl"
    rw [cut_from_one, ← List.map_drop, zipT_map]
    refine ⟨by simp; omega, compM_map (f := ltF) (fun x hx n2 k q => ?_) ?_⟩
    · obtain ⟨⟨a, b⟩, _, rfl⟩ := List.mem_map.mp hx
      refine ⟨a, rfl, b, rfl, ?_⟩
      have q' : k (some (.bl (SCo.ltI (intsOf (a.map D.int)) (intsOf (b.map D.int))))) n2 := q
      rw [intsOf_map, intsOf_map] at q'
      exact q'
    · rw [List.map_map]
      refine ⟨(nss.zip (nss.drop 1)).map fun p => SCo.ltI p.1 p.2, ?_, ?_⟩
      · rw [← blsD_map (f := fun p : List Int × List Int => SCo.ltI p.1 p.2)]
        refine congrArg _ (List.map_congr_left fun p _ => ?_)
        show D.bl (SCo.ltI (intsOf (p.1.map D.int)) (intsOf (p.2.map D.int))) = _
        rw [intsOf_map, intsOf_map]
      · rw [all_map]
        exact p


abbrev s_is_lot : Stmt := topS 8
theorem sc_is_lot : FnScope ["thing", "low", "high", "number"] ["thing", "low", "high"] (defScope s_is_lot) := ⟨rfl, rfl, rfl, by decide +kernel, rfl, by decide +kernel, by decide +kernel⟩
theorem ok_is_lot (T : Txt K mg cs tk0) (D : DefAt K mg "is_lot" s_is_lot ["thing", "low", "high"]) (c_is_between : Has P w K mg base CX0 2 "is_between" ["thing", "low", "high"] (sp0 K TT ds_is_between)) (c_is_rising : Has P w K mg base CX0 1 "is_rising" ["things"] (sp0 K TT ds_is_rising)) : Has P w K mg base CX0 3 "is_lot" ["thing", "low", "high"] (sp0 K TT ds_is_lot) := by
  obtain ⟨f, fd, F, hm, hk, hb⟩ := D
  obtain ⟨_, _, c_is_between_ok, c_is_between_m, c_is_between_k, c_is_between_b⟩ := c_is_between
  obtain ⟨_, _, c_is_rising_ok, c_is_rising_m, c_is_rising_k, c_is_rising_b⟩ := c_is_rising
  refine ⟨f, fd, F.okD sc_is_lot (len_is_lot) (fun S cdv A outer s H E hr => ?_), hm, hk, hb⟩
  refine ⟨_, _, (pss_cons (ps_if (PW.pt (pw_or (pt_not (pt_val (pe_callB call_isD (by rfl) T.n_isinstance (by decide +kernel) (pa_cons (pv 0) (pa_cons (pe_bltn rfl T.n_tuple (by decide +kernel) (v := .ty "tuple") rfl) pa_nil))))) (pw_or1 (pt_cmpR (op_eqU hr.units) (pe_callB call_lenU (by rfl) T.n_len (by decide +kernel) (pa_cons (pv 0) pa_nil)) pe_int (nomark _))))) (pss_one (ps_ret pe_bl)) pss_nil)
      (pss_one (ps_ret (pe_and (pe_callB (cr_all rfl) (by rfl) T.n_all (by decide +kernel) (pa_cons (pe_lc (own := [("number", 3)]) (g := gName 3) rfl sc_is_lot.nd (pi_tup (pv 0)) (blkOk_by (N := ["thing", "low", "high", "number"]) (own := [("number", 3)]) (sc := defScope s_is_lot) (by decide +kernel)) (fun _ _ _ _ _ => (pg_name (i := 3) sc_is_lot.nd rfl (by first | exact Or.inl rfl | exact Or.inr rfl))) (fun _ _ _ _ _ => pts_nil) (fun _ _ _ _ _ => (pe_call c_is_between_ok (hr.mono (by decide)) rfl c_is_between_m c_is_between_k c_is_between_b .nil pass0 (pa_cons (pv 3) (pa_cons (pv 1) (pa_cons (pv 2) pa_nil)))))) pa_nil)) (pe_one (pe_call c_is_rising_ok (hr.mono (by decide)) rfl c_is_rising_m c_is_rising_k c_is_rising_b .nil pass0 (pa_cons (pv 0) pa_nil))))))),
    (rds_seq (rds_if (rdt_or (rdt_not (rdt_B (rd_isT (by decide) (rd_var (i := 0))))) (rdt_test (rd_op o2_eq (rd_cb cal_len (rda_cons (rd_var (i := 0)) rda_nil)) rd_int))) (rds_ret rd_bl) rds_next)
      (rds_ret (rd_andV (rd_cb cal_all (rda_cons (rd_lc (rdj_of (rdi_tup (rd_var (i := 0)))) (rdg_name (vs := [3]) (by decide)) rdt_yes (rd_call0 (E := E0) (rda_cons (rd_var (i := 3)) (rda_cons (rd_var (i := 1)) (rda_cons (rd_var (i := 2)) rda_nil))))) rda_nil)) (rd_call0 (E := E0) (rda_cons (rd_var (i := 0)) rda_nil))))), ?_⟩
  rintro ss n P ⟨d, lo, hi, rfl, hx, hs, p⟩
  walk_at "dl"
  refine ⟨bare_of hx, ?_⟩
  cases d with
  | tup xs =>
    walk_at "dl"
    have hl : xs.length ≤ 100 := by simpa [shortD] using hs
    have hx' : nxs xs = true := hx
    rw [len0]
    simp only [lotB2] at p
    cases e0 : xs.isEmpty with
    | true =>
      rw [e0] at p
      exact p
    | false =>
      rw [e0] at p
      refine ⟨by omega, compM_map (f := fun x => .bl (betw lo hi x)) (fun y hy n' k q => ⟨y, lo, hi, rfl, bare_of (nxs_mem hx' hy), q⟩) (allD_map ?_)⟩
      cases e : xs.all (betw lo hi) with
      | false =>
        rw [e] at p
        exact p
      | true =>
        rw [e] at p
        exact .inl ⟨intsOf xs, by rw [← ints_eq e], by rw [intsOf_len]; omega, p⟩
  | _ => exact p


abbrev s_law_mixed : Stmt := topS 22
theorem sc_law_mixed : FnScope ["state", "several", "left", "found"] ["state", "several"] (defScope s_law_mixed) := ⟨rfl, rfl, rfl, by decide +kernel, rfl, by decide +kernel, by decide +kernel⟩
theorem ok_law_mixed (T : Txt K mg cs tk0) (D : DefAt K mg "_law_mixed" s_law_mixed ["state", "several"]) (c_law_draw : Has P w K mg base CX0 1 "_law_draw" ["state", "size_here"] (sp0 K TT ds_law_draw)) : Has P w K mg base CX0 2 "_law_mixed" ["state", "several"] (sp0 K TT ds_law_mixed) := by
  obtain ⟨f, fd, F, hm, hk, hb⟩ := D
  obtain ⟨_, _, c_law_draw_ok, c_law_draw_m, c_law_draw_k, c_law_draw_b⟩ := c_law_draw
  refine ⟨f, fd, F.okD sc_law_mixed (len_law_mixed) (fun S cdv A outer s H E hr => ?_), hm, hk, hb⟩
  refine ⟨_, _, (pss_cons (ps_par (i := 2) (j := 3) rfl sc_law_mixed.nd rfl rfl (by decide) rfl rfl (pa_cons (pe_callTy call_rListU (by rfl) T.n_list (by decide +kernel) (pa_cons (pv 1) pa_nil)) (pa_cons (pe_lst pa_nil) pa_nil)) (by rfl))
      (pss_cons (ps_while PassesOwn.never (pt_cmpR (op_neNil hr.units) (pv 2) (pe_lst pa_nil) (nomark _)) (pss_one (ps_expr (pe_bm PySem.F.plainAttrs_list PySem.F.slot_list_append PySem.F.type_list_append mt_append (pv 3) (pa_cons (pe_bm PySem.F.plainAttrs_list PySem.F.slot_list_pop PySem.F.type_list_pop mt_popAt (pv 2) (pa_cons (pe_call c_law_draw_ok (hr.mono (by decide)) rfl c_law_draw_m c_law_draw_k c_law_draw_b .nil pass0 (pa_cons (pv 0) (pa_cons (pe_callB call_lenU (by rfl) T.n_len (by decide +kernel) (pa_cons (pv 2) pa_nil)) pa_nil))) pa_nil)) pa_nil)))))
      (pss_one (ps_ret (pv 3))))),
    (rds_seq (rds_parM (i := 2) (j := 3) (rdm_n (rdn_list (rd_var (i := 1)))) (rdm_n rdn_nil))
      (rds_seq (rds_while (rdt_view (i := 2) (rdt_test (rd_op o2_neNil (rd_var (i := 2)) (rd_lst rda_nil)))) (rds_appPop (i := 3) (j := 2) (rd_call0 (E := E0) (rda_st (i := 0) (rda_cons (rd_lenO (i := 2)) rda_nil)))))
      (rds_retO (i := 3)))), ?_⟩
  rintro ss n P ⟨xs, rfl | rfl, hl, hn, p⟩
  · walk_at "dl"
    have hn' : n + 200 < 1099511627776 := hn
    refine ⟨fun m ρ n' => ∃ ys zs, ρ = [.st, .d (.lst xs), .ol ys, .ol zs] ∧ ys.length = m ∧ (zs ++ ys).Perm xs ∧ n' ≤ n + zs.length, ⟨_, xs, [], rfl, rfl, by simp, by simp⟩, ?_⟩
    rintro m ρ n' ⟨ys, zs, rfl, hm, hp, hn2⟩
    have hlen := hp.length_eq
    rw [List.length_append] at hlen
    walk_at "dl"
    cases e : ys.isEmpty with
    | true =>
      have : ys = [] := by simpa using e
      subst this
      rw [List.append_nil] at hp
      have := hp.length_eq
      exact p zs n' hp (by omega)
    | false =>
      have hpos : 0 < ys.length := by
        cases ys with
        | nil => cases e
        | cons a b => simp
      refine ⟨by decide, _, rfl, by omega, by omega, lim (by omega), fun r n1 r0 r1 h => ?_⟩
      obtain ⟨j, rfl⟩ := Int.eq_ofNat_of_zero_le r0
      have hj : j < ys.length := by omega
      have e2 : ys[j]? = some ys[j] := List.getElem?_eq_getElem hj
      refine ⟨j, rfl, by omega, ys[j], e2, by omega, m - 1, by omega, _, _, rfl, ?_, ?_, ?_⟩
      · rw [List.length_eraseIdx]
        simp [hj]
        omega
      · have z := L2.erase_perm ys j ys[j] e2
        rw [List.append_assoc]
        exact (List.Perm.append_left zs z).trans hp
      · simp
        omega
  · walk_at "dl"
    have hn' : n + 200 < 1099511627776 := hn
    refine ⟨fun m ρ n' => ∃ ys zs, ρ = [.st, .d (.tup xs), .ol ys, .ol zs] ∧ ys.length = m ∧ (zs ++ ys).Perm xs ∧ n' ≤ n + zs.length, ⟨_, xs, [], rfl, rfl, by simp, by simp⟩, ?_⟩
    rintro m ρ n' ⟨ys, zs, rfl, hm, hp, hn2⟩
    have hlen := hp.length_eq
    rw [List.length_append] at hlen
    walk_at "dl"
    cases e : ys.isEmpty with
    | true =>
      have : ys = [] := by simpa using e
      subst this
      rw [List.append_nil] at hp
      have := hp.length_eq
      exact p zs n' hp (by omega)
    | false =>
      have hpos : 0 < ys.length := by
        cases ys with
        | nil => cases e
        | cons a b => simp
      refine ⟨by decide, _, rfl, by omega, by omega, lim (by omega), fun r n1 r0 r1 h => ?_⟩
      obtain ⟨j, rfl⟩ := Int.eq_ofNat_of_zero_le r0
      have hj : j < ys.length := by omega
      have e2 : ys[j]? = some ys[j] := List.getElem?_eq_getElem hj
      refine ⟨j, rfl, by omega, ys[j], e2, by omega, m - 1, by omega, _, _, rfl, ?_, ?_, ?_⟩
      · rw [List.length_eraseIdx]
        simp [hj]
        omega
      · have z := L2.erase_perm ys j ys[j] e2
        rw [List.append_assoc]
        exact (List.Perm.append_left zs z).trans hp
      · simp
        omega


abbrev s_ties_at : Stmt := topS 16
theorem sc_ties_at : FnScope ["ties", "place", "tie"] ["ties", "place"] (defScope s_ties_at) := ⟨rfl, rfl, rfl, by decide +kernel, rfl, by decide +kernel, by decide +kernel⟩
theorem ok_ties_at (T : Txt K mg cs tk0) (D : DefAt K mg "_ties_at" s_ties_at ["ties", "place"]) : Has P w K mg base CX0 1 "_ties_at" ["ties", "place"] (sp0 K TT ds_ties_at) := by
  obtain ⟨f, fd, F, hm, hk, hb⟩ := D
  refine ⟨f, fd, F.okD sc_ties_at (len_ties_at) (fun S cdv A outer s H E hr => ?_), hm, hk, hb⟩
  refine ⟨_, _, (pss_one (ps_ret (pe_lc (own := [("tie", 2)]) (g := gName 2) rfl sc_ties_at.nd (pi_tup (pv 0)) (blkOk_by (N := ["ties", "place", "tie"]) (own := [("tie", 2)]) (sc := defScope s_ties_at) (by decide +kernel)) (fun _ _ _ _ _ => (pg_name (i := 2) sc_ties_at.nd rfl (by first | exact Or.inl rfl | exact Or.inr rfl))) (fun _ _ _ _ _ => (pts_one (pt_cmpR op_in_seq (pv 1) (pv 2) (by with_unfolding_all rfl)))) (fun _ _ _ _ _ => (pv 2))))),
    (rds_ret (rd_lc (rdj_of (rdi_tup (rd_var (i := 0)))) (rdg_name (vs := [2]) (by decide)) (rdt_test (rd_op o2_in (rd_var (i := 1)) (rd_var (i := 2)))) (rd_var (i := 2)))), ?_⟩
  rintro ss n P ⟨ts, p, rfl, hl, q0⟩
  walk_at "dl"
  refine ⟨by rw [List.length_map]; omega, compM_filter (f := atF p) (fun x hx n2 k q => ?_) ?_⟩
  · obtain ⟨t, _, rfl⟩ := List.mem_map.mp hx
    refine ⟨p, [t.1, t.2], rfl, rfl, ?_⟩
    have e : ([t.1, t.2].any (· == p)) = atB p t := by
      unfold atB
      by_cases h1 : t.1 = p
      · simp [h1]
      · by_cases h2 : t.2 = p
        · simp [h2]
        · simp [h1, h2]
    rw [e]
    have q' : k (match atB p (t.1, t.2) with | true => some (pairI (t.1, t.2)) | false => none) n2 := q
    have e2 : atB p (t.1, t.2) = atB p t := rfl
    rw [e2] at q'
    cases h : atB p t with
    | true =>
      rw [h] at q'
      exact q'
    | false =>
      rw [h] at q'
      exact q'
  · rw [atF_map]
    exact q0


abbrev s_steps_to : Stmt := topS 17
theorem sc_steps_to : FnScope ["ties", "goal", "step", "reached", "place", "one", "other", "farther"] ["ties", "goal"] (defScope s_steps_to) := ⟨rfl, rfl, rfl, by decide +kernel, rfl, by decide +kernel, by decide +kernel⟩
theorem ok_steps_to (T : Txt K mg cs tk0) (D : DefAt K mg "steps_to" s_steps_to ["ties", "goal"]) (c_ties_at : Has P w K mg base CX0 1 "_ties_at" ["ties", "place"] (sp0 K TT ds_ties_at)) : Has P w K mg base CX0 2 "steps_to" ["ties", "goal"] (sp0 K TT ds_steps_to) := by
  obtain ⟨f, fd, F, hm, hk, hb⟩ := D
  obtain ⟨_, _, c_ties_at_ok, c_ties_at_m, c_ties_at_k, c_ties_at_b⟩ := c_ties_at
  refine ⟨f, fd, F.okD sc_steps_to (len_steps_to) (fun S cdv A outer s H E hr => ?_), hm, hk, hb⟩
  refine ⟨_, _, (pss_cons (ps_set (i := 2) sc_steps_to.nd rfl (by first | exact Or.inl rfl | exact Or.inr rfl) (pe_disp (pps_cons (pv 1) (pv 1) pps_nil) (by rfl) (by rfl) (fun z => by cases z) (by decide)))
      (pss_cons (ps_set (i := 3) sc_steps_to.nd rfl (by first | exact Or.inl rfl | exact Or.inr rfl) (pe_lst (pa_cons (pv 1) pa_nil)))
      (pss_cons (ps_while PassesOwn.never (pt_cmpR op_gt (pe_callB call_lenU (by rfl) T.n_len (by decide +kernel) (pa_cons (pv 3) pa_nil)) pe_int (nomark _)) (pss_cons (ps_set (i := 4) sc_steps_to.nd rfl (by first | exact Or.inl rfl | exact Or.inr rfl) (pe_bm0 PySem.F.plainAttrs_list PySem.F.slot_list_pop PySem.F.type_list_pop mt_pop (pv 3)))
      (pss_one (ps_for PassesOwn.never rfl (pi_list (pe_call c_ties_at_ok (hr.mono (by decide)) rfl c_ties_at_m c_ties_at_k c_ties_at_b .nil pass0 (pa_cons (pv 0) (pa_cons (pv 4) pa_nil)))) (pg_tup rfl (pgs_cons (pg_name (i := 5) sc_steps_to.nd rfl (by first | exact Or.inl rfl | exact Or.inr rfl)) (pgs_cons (pg_name (i := 6) sc_steps_to.nd rfl (by first | exact Or.inl rfl | exact Or.inr rfl)) pgs_nil))) (pss_cons (ps_set (i := 7) sc_steps_to.nd rfl (by first | exact Or.inl rfl | exact Or.inr rfl) (pe_ifExp (pt_cmpR (op_eqU hr.units) (pv 5) (pv 4) (nomark _)) (pv 6) (pv 5)))
      (pss_one (ps_if (pt_cmp (pc_dnotin (hu_of hr) (pv 7) (pv 2)) rfl) (pss_cons (ps_dput (hu_of hr) (pv 2) (pv 7) (pv 4) rfl)
      (pss_one (ps_expr (pe_bm PySem.F.plainAttrs_list PySem.F.slot_list_append PySem.F.type_list_append mt_append (pv 3) (pa_cons (pv 7) pa_nil))))) pss_nil)))))))
      (pss_one (ps_ret (pv 2)))))),
    (rds_seq (rds_setD (.cons (rd_var (i := 1)) (rd_var (i := 1)) .nil))
      (rds_seq (rds_setO (rdn_lst (rda_cons (rd_var (i := 1)) rda_nil)))
      (rds_seq (rds_while (rdt_view (i := 3) (rdt_test (rd_op o2_cmp (rd_cb cal_len (rda_cons (rd_var (i := 3)) rda_nil)) rd_int))) (rds_seq (rds_setPop0 (i := 4) (j := 3))
      (rds_for (rdi_list (rd_call0 (E := E0) (rda_cons (rd_var (i := 0)) (rda_cons (rd_var (i := 4)) rda_nil)))) (rdg_two (vs := [5, 6]) (by decide) (by decide)) (rds_seq (rds_set (rd_if (rdt_test (rd_op o2_eq (rd_var (i := 5)) (rd_var (i := 4)))) (rd_var (i := 6)) (rd_var (i := 5))))
      (rds_if (rdt_notInE (i := 2) (rd_var (i := 7))) (rds_seq (rds_putK (i := 2) (rd_var (i := 7)) (rd_var (i := 4)))
      (rds_appO (i := 3) (rd_var (i := 7)))) rds_next)))))
      (rds_retE (i := 2))))), ?_⟩
  rintro ss n P ⟨ts, goal, rfl, t, g0, g1, p⟩
  walk_at "dl"
  have tl := t.l
  refine ⟨by simp, fun m ρ n' => n' = n ∧ ∃ (ks vs st : List Int) (u4 u5 u6 u7 : SV), ρ = [.d (.tup (ts.map pairI)), .d (.int goal), .od (ks.map keyI) (vs.map D.int), .ol (st.map D.int), u4, u5, u6, u7] ∧ m + ks.length = ts.length + 2 + st.length ∧ StepI ts goal ks vs st ∧ DoneI ts ks st [], ⟨ts.length + 2, rfl, [goal], [goal], [goal], _, _, _, _, rfl, rfl, stepI_start g0 g1, fun k hk hs => absurd hk hs⟩, ?_⟩
  rintro m ρ n' ⟨rfl, ks, vs, st, u4, u5, u6, u7, rfl, hm, hI, hD⟩
  have hfew := hI.few
  walk_at "dl"
  rw [List.length_map]
  cases st with
  | nil =>
    rw [show decide ((0 : Int) < (([] : List Int).length : Int)) = false from rfl]
    refine p ks vs ⟨hI, fun e he => ?_⟩
    exact ⟨fun hk => (hD e.1 hk (by simp) (by simp) e he).1 rfl, fun hk => (hD e.2 hk (by simp) (by simp) e he).2 rfl⟩
  | cons s0 st0 =>
    obtain ⟨ys, y, hst⟩ : ∃ ys y, s0 :: st0 = ys ++ [y] := ⟨(s0 :: st0).dropLast, (s0 :: st0).getLast (by simp), (List.dropLast_concat_getLast (by simp)).symm⟩
    rw [hst] at hI hD hm ⊢
    obtain ⟨hI2, hy, hyn⟩ := stepI_pop hI
    rw [decide_eq_true (by rw [List.length_append]; simp only [List.length_cons, List.length_nil]; omega)]
    refine ⟨ys.map D.int, .int y, by rw [List.map_append]; rfl, ?_⟩
    refine ⟨ts, y, rfl, by omega, ?_⟩
    show ∃ _, _
    rw [List.length_append] at hm
    simp only [List.length_cons, List.length_nil] at hm
    refine ⟨fun i ρ n2 => n2 = n' ∧ ∃ (ks vs st : List Int) (u5 u6 u7 : SV), ρ = [.d (.tup (ts.map pairI)), .d (.int goal), .od (ks.map keyI) (vs.map D.int), .ol (st.map D.int), .d (.int y), u5, u6, u7] ∧ m + ks.length = ts.length + 2 + (st.length + 1) ∧ StepI ts goal ks vs st ∧ y ∈ ks ∧ y ∉ st ∧ DoneI ts ks st [y] ∧ ∀ (j : Nat) (e : Int × Int), j < i → (ts.filter (atB y))[j]? = some e → e.1 ∈ ks ∧ e.2 ∈ ks, ⟨rfl, ks, vs, ys, _, _, _, rfl, by omega, hI2, hy, hyn, ?_, fun j e hj => absurd hj (Nat.not_lt_zero _)⟩, ?_, ?_⟩
    · intro k hk hs hx
      exact hD k hk (fun z => (List.mem_append.mp z).elim hs hx) (by simp)
    · rintro i x ρ n2 hx ⟨rfl, ks, vs, st, v5, v6, v7, rfl, hm, hI, hy, hyn, hD, hP⟩
      rw [List.getElem?_map] at hx
      obtain ⟨⟨a, b⟩, he, rfl⟩ := Option.map_eq_some_iff.mp hx
      clear hx
      obtain ⟨he1, he2⟩ := List.mem_filter.mp (List.mem_of_getElem? he)
      have hat : a = y ∨ b = y := of_decide_eq_true he2
      have nxt : ∀ ks2 : List Int, (∀ z ∈ ks, z ∈ ks2) → (a ∈ ks2 ∧ b ∈ ks2) → ∀ (j : Nat) (e : Int × Int), j < i + 1 → (ts.filter (atB y))[j]? = some e → e.1 ∈ ks2 ∧ e.2 ∈ ks2 := fun ks2 h1 h2 j e hj ej => by
        rcases Nat.lt_succ_iff_lt_or_eq.mp hj with hj | hj
        · exact ⟨h1 _ (hP j e hj ej).1, h1 _ (hP j e hj ej).2⟩
        · subst hj
          rw [he] at ej
          cases ej
          exact h2
      show _
      walk_at "dl"
      show eqP id (.int a) (.int y) _
      rw [eqP_int]
      simp only [id]
      by_cases hay : a = y
      · rw [decide_eq_true hay]
        refine ⟨keyI b, rfl, ?_⟩
        rw [keys_in]
        by_cases hf : b ∈ ks
        · rw [decide_eq_true hf]
          exact ⟨ks, vs, st, _, _, _, rfl, hm, hI, hy, hyn, hD, nxt ks (fun z hz => hz) ⟨by rw [hay]; exact hy, hf⟩⟩
        · rw [decide_eq_false hf]
          have hfew := hI.few
          have hst : st.length ≤ ks.length := nlenT hI.snd hI.sub
          refine ⟨⟨_, _, rfl⟩, keyI b, rfl, fun z => ?_, by rw [List.length_map]; omega, by rw [List.length_map]; omega, ks ++ [b], vs ++ [y], st ++ [b], _, _, _, by rw [List.map_append, List.map_append, List.map_append]; rfl, by rw [List.length_append, List.length_append]; simp only [List.length_cons, List.length_nil]; omega, stepI_add hI hy hf (.inr (by rw [← hay]; exact he1)) (t.b _ he1).2.2.1 (t.b _ he1).2.2.2, List.mem_append_left _ hy, fun z => (List.mem_append.mp z).elim hyn fun z2 => hf (by rw [← List.mem_singleton.mp z2]; exact hy), doneI_add hD, nxt (ks ++ [b]) (fun z hz => List.mem_append_left _ hz) ⟨List.mem_append_left _ (by rw [hay]; exact hy), List.mem_append_right _ (List.mem_singleton.mpr rfl)⟩⟩
          have := keyIn_mem.mpr z
          rw [keys_in] at this
          exact hf (of_decide_eq_true this)
      · have hby : b = y := hat.resolve_left hay
        rw [decide_eq_false hay]
        refine ⟨keyI a, rfl, ?_⟩
        rw [keys_in]
        by_cases hf : a ∈ ks
        · rw [decide_eq_true hf]
          exact ⟨ks, vs, st, _, _, _, rfl, hm, hI, hy, hyn, hD, nxt ks (fun z hz => hz) ⟨hf, by rw [hby]; exact hy⟩⟩
        · rw [decide_eq_false hf]
          have hfew := hI.few
          have hst : st.length ≤ ks.length := nlenT hI.snd hI.sub
          refine ⟨⟨_, _, rfl⟩, keyI a, rfl, fun z => ?_, by rw [List.length_map]; omega, by rw [List.length_map]; omega, ks ++ [a], vs ++ [y], st ++ [a], _, _, _, by rw [List.map_append, List.map_append, List.map_append]; rfl, by rw [List.length_append, List.length_append]; simp only [List.length_cons, List.length_nil]; omega, stepI_add hI hy hf (.inl (by rw [← hby]; exact he1)) (t.b _ he1).1 (t.b _ he1).2.1, List.mem_append_left _ hy, fun z => (List.mem_append.mp z).elim hyn fun z2 => hf (by rw [← List.mem_singleton.mp z2]; exact hy), doneI_add hD, nxt (ks ++ [a]) (fun z hz => List.mem_append_left _ hz) ⟨List.mem_append_right _ (List.mem_singleton.mpr rfl), List.mem_append_left _ (by rw [hby]; exact hy)⟩⟩
          have := keyIn_mem.mpr z
          rw [keys_in] at this
          exact hf (of_decide_eq_true this)
    · rintro ρ n2 ⟨rfl, ks, vs, st, v5, v6, v7, rfl, hm, hI, hy, hyn, hD, hP⟩
      rw [List.length_map] at hP
      refine ⟨m - 1, by have := hI.few; omega, rfl, ks, vs, st, _, _, _, _, rfl, by have := hI.few; omega, hI, fun k hk hs _ e he => ?_⟩
      by_cases hky : k = y
      · subst hky
        have hin : ∀ e ∈ ts, atB k e = true → e.1 ∈ ks ∧ e.2 ∈ ks := fun e he hb => by
          obtain ⟨j, ej⟩ := List.mem_iff_getElem?.mp (List.mem_filter.mpr ⟨he, hb⟩)
          exact hP j e (List.getElem?_eq_some_iff.mp ej).1 ej
        exact ⟨fun e1 => (hin e he (decide_eq_true (.inl e1))).2, fun e1 => (hin e he (decide_eq_true (.inr e1))).1⟩
      · exact hD k hk hs (by simp [hky]) e he


abbrev s_are_ties : Stmt := topS 14
theorem sc_are_ties : FnScope ["thing", "tie"] ["thing"] (defScope s_are_ties) := ⟨rfl, rfl, rfl, by decide +kernel, rfl, by decide +kernel, by decide +kernel⟩
theorem ok_are_ties (T : Txt K mg cs tk0) (D : DefAt K mg "_are_ties" s_are_ties ["thing"]) (c_is_lot : Has P w K mg base CX0 3 "is_lot" ["thing", "low", "high"] (sp0 K TT ds_is_lot)) (c_is_rising : Has P w K mg base CX0 1 "is_rising" ["things"] (sp0 K TT ds_is_rising)) (c_steps_to : Has P w K mg base CX0 2 "steps_to" ["ties", "goal"] (sp0 K TT ds_steps_to)) : Has P w K mg base CX0 4 "_are_ties" ["thing"] (sp0 K TT ds_are_ties) := by
  obtain ⟨f, fd, F, hm, hk, hb⟩ := D
  obtain ⟨_, _, c_is_lot_ok, c_is_lot_m, c_is_lot_k, c_is_lot_b⟩ := c_is_lot
  obtain ⟨_, _, c_is_rising_ok, c_is_rising_m, c_is_rising_k, c_is_rising_b⟩ := c_is_rising
  obtain ⟨_, _, c_steps_to_ok, c_steps_to_m, c_steps_to_k, c_steps_to_b⟩ := c_steps_to
  refine ⟨f, fd, F.okD sc_are_ties (len_are_ties) (fun S cdv A outer s H E hr => ?_), hm, hk, hb⟩
  refine ⟨_, _, (pss_cons (ps_if (PW.pt (pw_or (pt_not (pt_val (pe_callB call_isD (by rfl) T.n_isinstance (by decide +kernel) (pa_cons (pv 0) (pa_cons (pe_bltn rfl T.n_tuple (by decide +kernel) (v := .ty "tuple") rfl) pa_nil))))) (pw_or1 (pt_cmpR op_gt (pe_callB call_lenU (by rfl) T.n_len (by decide +kernel) (pa_cons (pv 0) pa_nil)) (pe_glob (v := .int 21) rfl T.k_MOST_TIES.2 ⟨_, rfl⟩) (nomark _))))) (pss_one (ps_ret pe_bl)) pss_nil)
      (pss_cons (ps_if (pt_not (pt_val (pe_callB (cr_all rfl) (by rfl) T.n_all (by decide +kernel) (pa_cons (pe_lc (own := [("tie", 1)]) (g := gName 1) rfl sc_are_ties.nd (pi_tup (pv 0)) (blkOk_by (N := ["thing", "tie"]) (own := [("tie", 1)]) (sc := defScope s_are_ties) (by decide +kernel)) (fun _ _ _ _ _ => (pg_name (i := 1) sc_are_ties.nd rfl (by first | exact Or.inl rfl | exact Or.inr rfl))) (fun _ _ _ _ _ => pts_nil) (fun _ _ _ _ _ => (pe_and (pe_call c_is_lot_ok (hr.mono (by decide)) rfl c_is_lot_m c_is_lot_k c_is_lot_b .nil pass0 (pa_cons (pv 1) (pa_cons pe_int (pa_cons (pe_callB call_lenU (by rfl) T.n_len (by decide +kernel) (pa_cons (pv 0) pa_nil)) pa_nil)))) (pe_one (pe_cmpR (op_eqU hr.units) (pe_callB call_lenU (by rfl) T.n_len (by decide +kernel) (pa_cons (pv 1) pa_nil)) pe_int (nomark _)))))) pa_nil)))) (pss_one (ps_ret pe_bl)) pss_nil)
      (pss_one (ps_ret (pe_and (pe_call c_is_rising_ok (hr.mono (by decide)) rfl c_is_rising_m c_is_rising_k c_is_rising_b .nil pass0 (pa_cons (pv 0) pa_nil)) (pe_one (pe_cmpR (op_eqU hr.units) (pe_callB call_lenK (by rfl) T.n_len (by decide +kernel) (pa_cons (pe_call c_steps_to_ok (hr.mono (by decide)) rfl c_steps_to_m c_steps_to_k c_steps_to_b .nil pass0 (pa_cons (pv 0) (pa_cons pe_int pa_nil))) pa_nil)) (pe_op op_addU (pe_callB call_lenU (by rfl) T.n_len (by decide +kernel) (pa_cons (pv 0) pa_nil)) pe_int) (nomark _)))))))),
    (rds_seq (rds_if (rdt_or (rdt_not (rdt_B (rd_isT (by decide) (rd_var (i := 0))))) (rdt_test (rd_op o2_cmp (rd_cb cal_len (rda_cons (rd_var (i := 0)) rda_nil)) rd_int))) (rds_ret rd_bl) rds_next)
      (rds_seq (rds_if (rdt_not (rdt_B (rd_cb cal_all (rda_cons (rd_lc (rdj_of (rdi_tup (rd_var (i := 0)))) (rdg_name (vs := [1]) (by decide)) rdt_yes (rd_andV (rd_call0 (E := E0) (rda_cons (rd_var (i := 1)) (rda_cons rd_int (rda_cons (rd_cb cal_len (rda_cons (rd_var (i := 0)) rda_nil)) rda_nil)))) (rd_op o2_eq (rd_cb cal_len (rda_cons (rd_var (i := 1)) rda_nil)) rd_int))) rda_nil)))) (rds_ret rd_bl) rds_next)
      (rds_ret (rd_andV (rd_call0 (E := E0) (rda_cons (rd_var (i := 0)) rda_nil)) (rd_op o2_eq (rd_cb cal_lenK (rda_cons (rd_call0 (E := E0) (rda_cons (rd_var (i := 0)) (rda_cons rd_int rda_nil))) rda_nil)) (rd_op o2_add (rd_cb cal_len (rda_cons (rd_var (i := 0)) rda_nil)) rd_int)))))), ?_⟩
  rintro ss n P ⟨d, rfl, xd, sd, p⟩
  walk_at "dl"
  refine ⟨bare_of xd, ?_⟩
  cases d with
  | tup xs =>
    have hx : nxs xs = true := xd
    simp only [short2, Bool.and_eq_true, decide_eq_true_eq, List.all_eq_true] at sd
    walk_at "dl"
    by_cases h21 : xs.length ≤ 21
    · rw [decide_eq_false (by omega)]
      refine ⟨by omega, compM_map (f := fun x => .bl (tieB xs.length x)) (fun x hx2 n2 k q => ?_) (allD_map ?_)⟩
      · refine ⟨_, _, _, rfl, nxs_mem hx hx2, sd.2 x hx2, ?_⟩
        unfold tieB at q
        cases hb : lotB2 0 (xs.length : Int) x with
        | false =>
          rw [hb] at q
          exact q
        | true =>
          rw [hb, Bool.true_and] at q
          obtain ⟨ns, rfl, _, _, _⟩ := lot_of hb
          show eqP id (.int ((ns.map D.int).length : Int)) (.int 2) _
          rw [eqP_int, List.length_map]
          have e2 : len2D (tupI ns) = decide ((ns.length : Int) = 2) := by
            match ns with
            | [] => rfl
            | [_] => rfl
            | [_, _] => rfl
            | _ :: _ :: _ :: l =>
              show false = _
              rw [decide_eq_false]
              simp only [List.length_cons]
              omega
          rw [e2] at q
          exact q
      · cases ha : xs.all (tieB xs.length) with
        | false =>
          have e0 : tiesB (.tup xs) = false := by
            show (decide (xs.length ≤ 21) && (xs.all (tieB xs.length) && (risL (xs.map intsD) && connB (xs.map pairD)))) = false
            rw [ha]
            simp
          rw [e0] at p
          exact p
        | true =>
          obtain ⟨ts, e, bs⟩ := pairs_of ha
          have hl : xs.length = ts.length := by rw [e, List.length_map]
          rw [hl] at h21 bs
          subst e
          rw [tiesB_pairs h21 bs] at p
          show ds_is_rising _ _ _
          refine .inr ⟨ts.map fun e => [e.1, e.2], ?_, by rw [List.length_map]; omega, ?_⟩
          · rw [List.map_map]
            rfl
          · cases hr : risL (ts.map fun e => [e.1, e.2]) with
            | false =>
              rw [hr] at p
              exact p
            | true =>
              rw [hr, Bool.true_and] at p
              show ds_steps_to _ _ _
              refine ⟨ts, 0, rfl, ⟨by omega, fun e he => by have := bs e he; omega⟩, by omega, by omega, fun ks vs hs => ?_⟩
              show eqP id (.int ((ks.map keyI).length : Nat)) (.int (((ts.map pairI).length : Int) + 1)) _
              rw [eqP_int, List.length_map, List.length_map]
              simp only [id]
              rw [conn_len hs] at p
              rw [show decide ((ks.length : Int) = (ts.length : Int) + 1) = decide (ks.length = ts.length + 1) from decide_eq_decide.mpr (by omega)]
              exact p
    · rw [decide_eq_true (by omega)]
      have e0 : tiesB (.tup xs) = false := by
        show (decide (xs.length ≤ 21) && (xs.all (tieB xs.length) && (risL (xs.map intsD) && connB (xs.map pairD)))) = false
        rw [decide_eq_false h21]
        rfl
      rw [e0] at p
      exact p
  | _ => exact p

abbrev s_are_seats : Stmt := topS 15
theorem sc_are_seats : FnScope ["ties", "thing", "lost", "place", "seat"] ["ties", "thing"] (defScope s_are_seats) := ⟨rfl, rfl, rfl, by decide +kernel, rfl, by decide +kernel, by decide +kernel⟩
theorem ok_are_seats (T : Txt K mg cs tk0) (D : DefAt K mg "_are_seats" s_are_seats ["ties", "thing"]) (c_is_between : Has P w K mg base CX0 2 "is_between" ["thing", "low", "high"] (sp0 K TT ds_is_between)) (c_ties_at : Has P w K mg base CX0 1 "_ties_at" ["ties", "place"] (sp0 K TT ds_ties_at)) : Has P w K mg base CX0 3 "_are_seats" ["ties", "thing"] (sp0 K TT ds_are_seats) := by
  obtain ⟨f, fd, F, hm, hk, hb⟩ := D
  obtain ⟨_, _, c_is_between_ok, c_is_between_m, c_is_between_k, c_is_between_b⟩ := c_is_between
  obtain ⟨_, _, c_ties_at_ok, c_ties_at_m, c_ties_at_k, c_ties_at_b⟩ := c_ties_at
  refine ⟨f, fd, F.okD sc_are_seats (len_are_seats) (fun S cdv A outer s H E hr => ?_), hm, hk, hb⟩
  refine ⟨_, _, (pss_cons (ps_if (PW.pt (pw_or (pt_not (pt_val (pe_callB call_isD (by rfl) T.n_isinstance (by decide +kernel) (pa_cons (pv 1) (pa_cons (pe_bltn rfl T.n_tuple (by decide +kernel) (v := .ty "tuple") rfl) pa_nil))))) (pw_or1 (pt_not (pt_chain op_le op_le pe_int (pe_callB call_lenU (by rfl) T.n_len (by decide +kernel) (pa_cons (pv 1) pa_nil)) (pe_glob (v := .int 12) rfl T.k_MOST_VALLEYS.2 ⟨_, rfl⟩)))))) (pss_one (ps_ret pe_bl)) pss_nil)
      (pss_cons (ps_if (pt_not (pt_val (pe_callB (cr_all rfl) (by rfl) T.n_all (by decide +kernel) (pa_cons (pe_lc (own := [("seat", 4)]) (g := gName 4) rfl sc_are_seats.nd (pi_tup (pv 1)) (blkOk_by (N := ["ties", "thing", "lost", "place", "seat"]) (own := [("seat", 4)]) (sc := defScope s_are_seats) (by decide +kernel)) (fun _ _ _ _ _ => (pg_name (i := 4) sc_are_seats.nd rfl (by first | exact Or.inl rfl | exact Or.inr rfl))) (fun _ _ _ _ _ => pts_nil) (fun _ _ _ _ _ => (pe_call c_is_between_ok (hr.mono (by decide)) rfl c_is_between_m c_is_between_k c_is_between_b .nil pass0 (pa_cons (pv 4) (pa_cons pe_int (pa_cons (pe_callB call_lenU (by rfl) T.n_len (by decide +kernel) (pa_cons (pv 0) pa_nil)) pa_nil)))))) pa_nil)))) (pss_one (ps_ret pe_bl)) pss_nil)
      (pss_cons (ps_setLc (i := 2) (own := [("place", 3)]) (g := gName 3) rfl sc_are_seats.nd rfl rfl (sw_true rfl rfl rfl (by decide +kernel)) (pi_range1 (by rfl) T.n_range (pa_cons (pe_op op_addU (pe_callB call_lenU (by rfl) T.n_len (by decide +kernel) (pa_cons (pv 0) pa_nil)) pe_int) pa_nil)) (blkOk_by (N := ["ties", "thing", "lost", "place", "seat"]) (own := [("place", 3)]) (sc := defScope s_are_seats) (by decide +kernel)) (fun _ _ _ _ _ => (pg_name (i := 3) sc_are_seats.nd rfl (by first | exact Or.inl rfl | exact Or.inr rfl))) (fun _ _ _ _ _ => (pts_one (pt_cmpR op_notIn_seq (pv 3) (pv 1) (by with_unfolding_all rfl)))) (fun _ _ _ _ _ => (pv 3)))
      (pss_one (ps_ret (pe_callB (cr_all rfl) (by rfl) T.n_all (by decide +kernel) (pa_cons (pe_lc (own := [("place", 3)]) (g := gName 3) rfl sc_are_seats.nd (pi_list (pv 2)) (blkOk_by (N := ["ties", "thing", "lost", "place", "seat"]) (own := [("place", 3)]) (sc := defScope s_are_seats) (by decide +kernel)) (fun _ _ _ _ _ => (pg_name (i := 3) sc_are_seats.nd rfl (by first | exact Or.inl rfl | exact Or.inr rfl))) (fun _ _ _ _ _ => pts_nil) (fun _ _ _ _ _ => (pe_cmpR op_ge (pe_callB call_lenU (by rfl) T.n_len (by decide +kernel) (pa_cons (pe_call c_ties_at_ok (hr.mono (by decide)) rfl c_ties_at_m c_ties_at_k c_ties_at_b .nil pass0 (pa_cons (pv 0) (pa_cons (pv 3) pa_nil))) pa_nil)) (pe_glob (v := .int 3) rfl T.k_LEAST_TIES_AT_LOST.2 ⟨_, rfl⟩) (nomark _)))) pa_nil))))))),
    (rds_seq (rds_if (rdt_or (rdt_not (rdt_B (rd_isT (by decide) (rd_var (i := 1))))) (rdt_not (rdt_test (rd_chain o2_cmp o2_cmp rd_int (rd_cb cal_len (rda_cons (rd_var (i := 1)) rda_nil)) rd_int)))) (rds_ret rd_bl) rds_next)
      (rds_seq (rds_if (rdt_not (rdt_B (rd_cb cal_all (rda_cons (rd_lc (rdj_of (rdi_tup (rd_var (i := 1)))) (rdg_name (vs := [4]) (by decide)) rdt_yes (rd_call0 (E := E0) (rda_cons (rd_var (i := 4)) (rda_cons rd_int (rda_cons (rd_cb cal_len (rda_cons (rd_var (i := 0)) rda_nil)) rda_nil))))) rda_nil)))) (rds_ret rd_bl) rds_next)
      (rds_seq (rds_set (rd_lc (rdj_of (rdi_range1 (rda_cons (rd_op o2_add (rd_cb cal_len (rda_cons (rd_var (i := 0)) rda_nil)) rd_int) rda_nil))) (rdg_name (vs := [3]) (by decide)) (rdt_test (rd_op o2_notIn (rd_var (i := 3)) (rd_var (i := 1)))) (rd_var (i := 3))))
      (rds_ret (rd_cb cal_all (rda_cons (rd_lc (rdj_of (rdi_list (rd_var (i := 2)))) (rdg_name (vs := [3]) (by decide)) rdt_yes (rd_op o2_cmp (rd_cb cal_len (rda_cons (rd_call0 (E := E0) (rda_cons (rd_var (i := 0)) (rda_cons (rd_var (i := 3)) rda_nil))) rda_nil)) rd_int)) rda_nil)))))), ?_⟩
  rintro ss n P ⟨ts, d, rfl, h21, xd, p⟩
  walk_at "dl"
  have hpl : (ts.map pairI).length = ts.length := List.length_map ..
  refine ⟨bare_of xd, ?_⟩
  cases d with
  | tup xs =>
    have hx : nxs xs = true := xd
    walk_at "dl"
    rw [hpl]
    by_cases h12 : 1 ≤ xs.length ∧ xs.length ≤ 12
    · rw [decide_eq_true (by omega : (1 : Int) ≤ (xs.length : Int)), decide_eq_true (by omega : (xs.length : Int) ≤ 12)]
      refine ⟨by omega, compM_map (f := fun x => .bl (betw 0 (ts.length : Int) x)) (fun x hx2 n2 k q => ?_) (allD_map ?_)⟩
      · exact ⟨_, _, _, rfl, bare_of (nxs_mem hx hx2), q⟩
      · cases ha : xs.all (betw 0 (ts.length : Int)) with
        | false =>
          have e0 : seatsB ts (.tup xs) = false := by
            show (decide (1 ≤ xs.length ∧ xs.length ≤ 12) && (xs.all (betw 0 (ts.length : Int)) && _)) = false
            rw [ha]
            simp
          rw [e0] at p
          exact p
        | true =>
          obtain ⟨seats, rfl, bs⟩ := betw_ints ha
          rw [List.length_map] at h12
          have p : P (.bl (seatsB ts (tupI seats))) n := p
          rw [seatsB_ints, decide_eq_true h12, ha, Bool.true_and, Bool.true_and] at p
          have ec : ((ts.length : Int) + 1).toNat = ts.length + 1 := by omega
          show _ ∧ _ ∧ _ ∧ _
          rw [ec]
          have erl : (rangeD 0 (ts.length + 1)).length = ts.length + 1 := range_len
          refine ⟨by omega, by omega, by rw [erl]; omega, compM_filter (f := lostF seats) (fun x hx2 n2 k q => ?_) ?_⟩
          · obtain ⟨i, hi, rfl⟩ := range_mem hx2
            refine ⟨_, rfl, seats, rfl, ?_⟩
            have q' : k (match !(seats.any fun z => z == (i : Int)) with | true => some (.int (i : Int)) | false => none) n2 := q
            cases e : !(seats.any fun z => z == (i : Int)) with
            | true =>
              rw [e] at q'
              exact q'
            | false =>
              rw [e] at q'
              exact q'
          · rw [lost_map]
            have hb : ((upTo ts.length).filter fun p => !decide (p ∈ seats)).length ≤ ts.length + 1 := by
              have := List.length_filter_le (fun p => !decide (p ∈ seats)) (upTo ts.length)
              rw [upTo_len] at this
              exact this
            refine ⟨by rw [List.length_map]; omega, compM_map (f := fun x => .bl (deg3 ts x)) (fun x hx2 n2 k q => ?_) (allD_map ?_)⟩
            · obtain ⟨v, hv, rfl⟩ := List.mem_map.mp hx2
              refine ⟨ts, _, rfl, by omega, ?_⟩
              show k (some (.bl (decide ((3 : Int) ≤ (((ts.filter (atB v)).map pairI).length : Int))))) n2
              rw [List.length_map, show decide ((3 : Int) ≤ ((ts.filter (atB v)).length : Int)) = decide (3 ≤ (ts.filter (atB v)).length) from decide_eq_decide.mpr (by omega)]
              exact q
            · rw [deg_all]
              exact p
    · have e0 : seatsB ts (.tup xs) = false := by
        show (decide (1 ≤ xs.length ∧ xs.length ≤ 12) && _) = false
        rw [decide_eq_false h12]
        rfl
      rw [e0] at p
      by_cases h1 : (1 : Int) ≤ (xs.length : Int)
      · rw [decide_eq_true h1, decide_eq_false (by omega : ¬ (xs.length : Int) ≤ 12)]
        exact p
      · rw [decide_eq_false h1]
        exact p
  | _ => exact p

abbrev s_Tree_init : Stmt := inClass (topS 13) 0
theorem sc_Tree_init : FnScope ["self", "ties", "seats"] ["self", "ties", "seats"] (defScope s_Tree_init) := ⟨rfl, rfl, rfl, by decide +kernel, rfl, by decide +kernel, by decide +kernel⟩
theorem ok_Tree_init (T : Txt K mg cs tk0) (D : Init2 K "Tree.__init__" cs.Tree s_Tree_init "ties" "seats") (c_are_ties : Has P w K mg base CX0 4 "_are_ties" ["thing"] (sp0 K TT ds_are_ties)) (c_are_seats : Has P w K mg base CX0 3 "_are_seats" ["ties", "thing"] (sp0 K TT ds_are_seats)) : HasI P w K mg base 5 cs.Tree "ties" "seats" (spI K TT cs.Tree (ds_Tree_init cs)) := by
  obtain ⟨f, fd, F, hm, hk, hb⟩ := D
  obtain ⟨_, _, c_are_ties_ok, c_are_ties_m, c_are_ties_k, c_are_ties_b⟩ := c_are_ties
  obtain ⟨_, _, c_are_seats_ok, c_are_seats_m, c_are_seats_k, c_are_seats_b⟩ := c_are_seats
  refine ⟨f, fd, okI F sc_Tree_init (len_Tree_init cs) (fun S cdv A outer s H E hr => ?_), hm, hk, hb⟩
  have tk := takes_of (X := cxOf (L2.CX P w) P w K mg base ["self", "ties", "seats"] "Tree.__init__" (defScope s_Tree_init) f cdv A outer s H E) (E := E) rfl rfl rfl rfl
  refine ⟨_, _, (pss_cons (ps_if (pt_not (pt_val (pe_call c_are_ties_ok (hr.mono (by decide)) rfl c_are_ties_m c_are_ties_k c_are_ties_b .nil pass0 (pa_cons (pv 1) pa_nil)))) (pss_one (ps_raise (W := fun cls d _ H => E cls d H) rfl tk (pmk_own PySem.F.excBase_ValueError T.x_BadTies T.g_BadTies T.e_BadTies (raises_own T.b_BadTies T.t_BadTies) rfl))) pss_nil)
      (pss_cons (ps_if (pt_not (pt_val (pe_call c_are_seats_ok (hr.mono (by decide)) rfl c_are_seats_m c_are_seats_k c_are_seats_b .nil pass0 (pa_cons (pv 1) (pa_cons (pv 2) pa_nil))))) (pss_one (ps_raise (W := fun cls d _ H => E cls d H) rfl tk (pmk_own PySem.F.excBase_ValueError T.x_BadSeats T.g_BadSeats T.e_BadSeats (raises_own T.b_BadSeats T.t_BadSeats) rfl))) pss_nil)
      (pss_cons (ps_fld (pv 0) (pv 1) rfl)
      (pss_one (ps_fld (pv 0) (pv 2) rfl))))),
    (rds_seq (rds_if (rdt_not (rdt_B (rd_call0 (E := E0) (rda_cons (rd_var (i := 1)) rda_nil)))) rds_raise rds_next)
      (rds_seq (rds_if (rdt_not (rdt_B (rd_call0 (E := E0) (rda_cons (rd_var (i := 1)) (rda_cons (rd_var (i := 2)) rda_nil))))) rds_raise rds_next)
      (rds_seq (rds_fldM (rd_var (i := 1)))
      (rds_fldM (rd_var (i := 2)))))), ?_⟩
  rintro y ss n P XP ⟨a, b, rfl, xa, sa, xb, h⟩
  walk_at "dl"
  refine ⟨a, rfl, xa, sa, ?_⟩
  rcases h with ⟨ht, p⟩ | ⟨ts, rfl, t, h⟩
  · rw [ht]
    exact p
  rw [ties_B t]
  show ds_are_seats _ _ _
  refine ⟨ts, b, rfl, t.l, xb, ?_⟩
  rcases h with ⟨hs, p⟩ | ⟨hs, p⟩
  · rw [hs]
    exact p
  rw [hs]
  exact ⟨rfl, T.ic_Tree.cl, T.na_Tree_ties, by decide, by decide, rfl, T.ic_Tree.cl, T.na_Tree_seats, by decide, by decide, rfl, rfl, p⟩

abbrev s_law_grown : Stmt := topS 36
theorem sc_law_grown : FnScope ["shape"] ["shape"] (defScope s_law_grown) := ⟨rfl, rfl, rfl, by decide +kernel, rfl, by decide +kernel, by decide +kernel⟩
theorem ok_law_grown (T : Txt K mg cs tk0) (D : DefAt K mg "_law_grown" s_law_grown ["shape"]) (c_Tree : HasI P w K mg base 5 cs.Tree "ties" "seats" (spI K TT cs.Tree (ds_Tree_init cs))) : Has P w K mg base CX0 7 "_law_grown" ["shape"] (sp0 K TT (ds_law_grown cs)) := by
  obtain ⟨f, fd, F, hm, hk, hb⟩ := D
  obtain ⟨_, _, c_Tree_ok, c_Tree_mk, c_Tree_b, c_Tree_kb⟩ := c_Tree
  refine ⟨f, fd, F.okD sc_law_grown (len_law_grown cs) (fun S cdv A outer s H E hr => ?_), hm, hk, hb⟩
  refine ⟨_, _, (pss_one (ps_ret (pe_make c_Tree_mk c_Tree_ok (hr.mono (by decide)) rfl T.g_Tree c_Tree_b .nil passL (pa_cons (pe_ix ix_seq (pv 0) pe_int (fun _ _ => rfl)) (pa_cons (pe_ix ix_seq (pv 0) pe_int (fun _ _ => rfl)) pa_nil))))),
    (rds_ret (rd_make (rda_cons (rd_op o2_ix (rd_var (i := 0)) rd_int) (rda_cons (rd_op o2_ix (rd_var (i := 0)) rd_int) rda_nil)))), ?_⟩
  rintro ss n P ⟨ts, seats, rfl, t, s, p⟩
  walk_at "dl"
  exact ⟨_, rfl, _, rfl, T.ic_Tree, _, _, rfl, ties_nx, ties_short t.l, nxs_ints, .inr ⟨ts, rfl, t, .inr ⟨seats_B s, p⟩⟩⟩

abbrev s_law_normal : Stmt := topS 30
theorem sc_law_normal : FnScope ["many", "some", "valley_here", "ties_here", "seats_here", "spot", "lot", "above", "other", "near", "own", "lowest", "pair", "item", "each"] ["many", "some"] (defScope s_law_normal) := ⟨rfl, rfl, rfl, by decide +kernel, rfl, by decide +kernel, by decide +kernel⟩
theorem ok_law_normal (T : Txt K mg cs tk0) (D : DefAt K mg "_law_normal" s_law_normal ["many", "some"]) : Has P w K mg base CX0 1 "_law_normal" ["many", "some"] (sp0 K TT ds_law_normal) := by
  obtain ⟨f, fd, F, hm, hk, hb⟩ := D
  refine ⟨f, fd, F.okD sc_law_normal (len_law_normal) (fun S cdv A outer s H E hr => ?_), hm, hk, hb⟩
  refine ⟨_, _, (pss_cons (ps_par (i := 3) (j := 4) rfl sc_law_normal.nd rfl rfl (by decide) rfl rfl (pa_cons (pe_lst pa_nil) (pa_cons (pe_lst pa_nil) pa_nil)) (by rfl))
      (pss_cons (ps_for PassesOwn.never rfl (RZ.pi_enumA (by rfl) T.n_enumerate (pa_cons (pv 1) pa_nil)) (pg_tup rfl (pgs_cons (pg_name (i := 5) sc_law_normal.nd rfl (by first | exact Or.inl rfl | exact Or.inr rfl)) (pgs_cons (pg_name (i := 6) sc_law_normal.nd rfl (by first | exact Or.inl rfl | exact Or.inr rfl)) pgs_nil))) (pss_cons (ps_set (i := 7) sc_law_normal.nd rfl (by first | exact Or.inl rfl | exact Or.inr rfl) (pe_lst pa_nil))
      (pss_cons (ps_for PassesOwn.never rfl (pi_range1 (by rfl) T.n_range (pa_cons (pe_callB call_lenU (by rfl) T.n_len (by decide +kernel) (pa_cons (pv 1) pa_nil)) pa_nil)) (pg_name (i := 8) sc_law_normal.nd rfl (by first | exact Or.inl rfl | exact Or.inr rfl)) (pss_one (ps_if (PW.pt (pw_and (pt_cmpR (op_neU hr.units) (pv 8) (pv 5) (nomark _)) (pw_and1 (pt_cmpR (op_eqU hr.units) (pe_lc (own := [("item", 13)]) (g := gName 13) rfl sc_law_normal.nd (pi_tup (pv 6)) (blkOk_by (N := ["many", "some", "valley_here", "ties_here", "seats_here", "spot", "lot", "above", "other", "near", "own", "lowest", "pair", "item", "each"]) (own := [("item", 13)]) (sc := defScope s_law_normal) (by decide +kernel)) (fun _ _ _ _ _ => (pg_name (i := 13) sc_law_normal.nd rfl (by first | exact Or.inl rfl | exact Or.inr rfl))) (fun _ _ _ _ _ => (pts_one (pt_cmpR op_notIn_seq (pv 13) (pe_ix ix_seq (pv 1) (pv 8) (fun _ _ => rfl)) (by with_unfolding_all rfl)))) (fun _ _ _ _ _ => pe_int)) (pe_lst pa_nil) (nomark _))))) (pss_one (ps_expr (pe_bm PySem.F.plainAttrs_list PySem.F.slot_list_append PySem.F.type_list_append mt_append (pv 7) (pa_cons (pv 8) pa_nil)))) pss_nil)))
      (pss_cons (ps_setLc (i := 9) (own := [("other", 8)]) (g := gName 8) rfl sc_law_normal.nd rfl rfl (sw_true rfl rfl rfl (by decide +kernel)) (pi_list (pv 7)) (blkOk_by (N := ["many", "some", "valley_here", "ties_here", "seats_here", "spot", "lot", "above", "other", "near", "own", "lowest", "pair", "item", "each"]) (own := [("other", 8)]) (sc := defScope s_law_normal) (by decide +kernel)) (fun _ _ _ _ _ => (pg_name (i := 8) sc_law_normal.nd rfl (by first | exact Or.inl rfl | exact Or.inr rfl))) (fun _ _ _ _ _ => (pts_one (pt_cmpR (op_eqU hr.units) (pe_lc (own := [("each", 14)]) (g := gName 14) rfl sc_law_normal.nd (pi_list (pv 7)) (blkOk_by (N := ["many", "some", "valley_here", "ties_here", "seats_here", "spot", "lot", "above", "other", "near", "own", "lowest", "pair", "item", "each"]) (own := [("each", 14)]) (by rfl)) (fun _ _ _ _ _ => (pg_name (i := 14) sc_law_normal.nd rfl (by first | exact Or.inl rfl | exact Or.inr rfl))) (fun _ _ _ _ _ => (pts_one (pt_cmpR op_lt (pe_callB call_lenU (by rfl) T.n_len (by decide +kernel) (pa_cons (pe_ix ix_seq (pv 1) (pv 14) (fun _ _ => rfl)) pa_nil)) (pe_callB call_lenU (by rfl) T.n_len (by decide +kernel) (pa_cons (pe_ix ix_seq (pv 1) (pv 8) (fun _ _ => rfl)) pa_nil)) (nomark _)))) (fun _ _ _ _ _ => pe_int)) (pe_lst pa_nil) (nomark _)))) (fun _ _ _ _ _ => (pv 8)))
      (pss_one (ps_expr (pe_bm PySem.F.plainAttrs_list PySem.F.slot_list_append PySem.F.type_list_append mt_append (pv 3) (pa_cons (pe_tup (pa_cons (pe_ifExp (pt_cmpR (op_eqU hr.units) (pv 9) (pe_lst pa_nil) (nomark _)) pe_int (pe_op op_addU (pe_ix ix_seq (pv 9) pe_int (fun _ _ => rfl)) pe_int)) (pa_cons (pe_op op_addU (pv 5) pe_int) pa_nil))) pa_nil))))))))
      (pss_cons (ps_for PassesOwn.never rfl (pi_range1 (by rfl) T.n_range (pa_cons (pv 0) pa_nil)) (pg_name (i := 2) sc_law_normal.nd rfl (by first | exact Or.inl rfl | exact Or.inr rfl)) (pss_cons (ps_set (i := 10) sc_law_normal.nd rfl (by first | exact Or.inl rfl | exact Or.inr rfl) (pe_lc (own := [("spot", 5), ("lot", 6)]) (g := gTup _ 2 (gCons (gName 5) (gCons (gName 6) gNil))) rfl sc_law_normal.nd (RZ.pi_enumA (by rfl) T.n_enumerate (pa_cons (pv 1) pa_nil)) (blkOk_by (N := ["many", "some", "valley_here", "ties_here", "seats_here", "spot", "lot", "above", "other", "near", "own", "lowest", "pair", "item", "each"]) (own := [("spot", 5), ("lot", 6)]) (sc := defScope s_law_normal) (by decide +kernel)) (fun _ _ _ _ _ => (pg_tup rfl (pgs_cons (pg_name (i := 5) sc_law_normal.nd rfl (by first | exact Or.inl rfl | exact Or.inr rfl)) (pgs_cons (pg_name (i := 6) sc_law_normal.nd rfl (by first | exact Or.inl rfl | exact Or.inr rfl)) pgs_nil)))) (fun _ _ _ _ _ => (pts_one (pt_cmpR op_in_seq (pv 2) (pv 6) (by with_unfolding_all rfl)))) (fun _ _ _ _ _ => (pv 5))))
      (pss_cons (ps_setLc (i := 11) (own := [("spot", 5)]) (g := gName 5) rfl sc_law_normal.nd rfl rfl (sw_true rfl rfl rfl (by decide +kernel)) (pi_list (pv 10)) (blkOk_by (N := ["many", "some", "valley_here", "ties_here", "seats_here", "spot", "lot", "above", "other", "near", "own", "lowest", "pair", "item", "each"]) (own := [("spot", 5)]) (sc := defScope s_law_normal) (by decide +kernel)) (fun _ _ _ _ _ => (pg_name (i := 5) sc_law_normal.nd rfl (by first | exact Or.inl rfl | exact Or.inr rfl))) (fun _ _ _ _ _ => (pts_one (pt_cmpR (op_eqU hr.units) (pe_lc (own := [("other", 8)]) (g := gName 8) rfl sc_law_normal.nd (pi_list (pv 10)) (blkOk_by (N := ["many", "some", "valley_here", "ties_here", "seats_here", "spot", "lot", "above", "other", "near", "own", "lowest", "pair", "item", "each"]) (own := [("other", 8)]) (by rfl)) (fun _ _ _ _ _ => (pg_name (i := 8) sc_law_normal.nd rfl (by first | exact Or.inl rfl | exact Or.inr rfl))) (fun _ _ _ _ _ => (pts_one (pt_cmpR op_lt (pe_callB call_lenU (by rfl) T.n_len (by decide +kernel) (pa_cons (pe_ix ix_seq (pv 1) (pv 8) (fun _ _ => rfl)) pa_nil)) (pe_callB call_lenU (by rfl) T.n_len (by decide +kernel) (pa_cons (pe_ix ix_seq (pv 1) (pv 5) (fun _ _ => rfl)) pa_nil)) (nomark _)))) (fun _ _ _ _ _ => pe_int)) (pe_lst pa_nil) (nomark _)))) (fun _ _ _ _ _ => (pv 5)))
      (pss_one (ps_expr (pe_bm PySem.F.plainAttrs_list PySem.F.slot_list_append PySem.F.type_list_append mt_append (pv 4) (pa_cons (pe_ifExp (pt_cmpR (op_eqU hr.units) (pv 11) (pe_lst pa_nil) (nomark _)) pe_int (pe_op op_addU (pe_ix ix_seq (pv 11) pe_int (fun _ _ => rfl)) pe_int)) pa_nil)))))))
      (pss_one (ps_ret (pe_tup (pa_cons (pe_callTy call_tupU (by rfl) T.n_tuple (by decide +kernel) (pa_cons (pe_callB (SCo.cr_sortT hr) (by rfl) T.n_sorted (by decide +kernel) (pa_cons (pe_lc (own := [("pair", 12)]) (g := gName 12) rfl sc_law_normal.nd (pi_list (pv 3)) (blkOk_by (N := ["many", "some", "valley_here", "ties_here", "seats_here", "spot", "lot", "above", "other", "near", "own", "lowest", "pair", "item", "each"]) (own := [("pair", 12)]) (sc := defScope s_law_normal) (by decide +kernel)) (fun _ _ _ _ _ => (pg_name (i := 12) sc_law_normal.nd rfl (by first | exact Or.inl rfl | exact Or.inr rfl))) (fun _ _ _ _ _ => pts_nil) (fun _ _ _ _ _ => (pe_tup (pa_cons (pe_callB (SCo.cr_minT hr) (by rfl) T.n_min (by decide +kernel) (pa_cons (pv 12) pa_nil)) (pa_cons (pe_callB (SCo.cr_maxT hr) (by rfl) T.n_max (by decide +kernel) (pa_cons (pv 12) pa_nil)) pa_nil))))) pa_nil)) pa_nil)) (pa_cons (pe_callTy call_tupU (by rfl) T.n_tuple (by decide +kernel) (pa_cons (pv 4) pa_nil)) pa_nil)))))))),
    (rds_seq (rds_parM (i := 3) (j := 4) (rdm_n rdn_nil) (rdm_n rdn_nil))
      (rds_seq (rds_for (rdi_enum (rda_cons (rd_var (i := 1)) rda_nil)) (rdg_two (vs := [5, 6]) (by decide) (by decide)) (rds_seq (rds_setO rdn_nil)
      (rds_seq (rds_for (rdi_range1 (rda_cons (rd_cb cal_len (rda_cons (rd_var (i := 1)) rda_nil)) rda_nil)) (rdg_name (vs := [8]) (by decide)) (rds_if (rdt_and (rdt_test (rd_op o2_ne (rd_var (i := 8)) (rd_var (i := 5)))) (rdt_test (rd_op o2_eq (rd_lc (rdj_of (rdi_tup (rd_var (i := 6)))) (rdg_name (vs := [13]) (by decide)) (rdt_test (rd_op o2_notIn (rd_var (i := 13)) (rd_op o2_ix (rd_var (i := 1)) (rd_var (i := 8))))) rd_int) (rd_lst rda_nil)))) (rds_appO (i := 7) (rd_var (i := 8))) rds_next))
      (rds_seq (rds_set (rd_lc (rdj_own (i := 7)) (rdg_name (vs := [8]) (by decide)) (rdt_test (rd_op o2_eq (rd_lc (rdj_own (i := 7)) (rdg_name (vs := [14]) (by decide)) (rdt_test (rd_op o2_cmp (rd_cb cal_len (rda_cons (rd_op o2_ix (rd_var (i := 1)) (rd_var (i := 14))) rda_nil)) (rd_cb cal_len (rda_cons (rd_op o2_ix (rd_var (i := 1)) (rd_var (i := 8))) rda_nil)))) rd_int) (rd_lst rda_nil))) (rd_var (i := 8))))
      (rds_appO (i := 3) (rd_tup (rda_cons (rd_if (rdt_test (rd_op o2_eq (rd_var (i := 9)) (rd_lst rda_nil))) rd_int (rd_op o2_add (rd_op o2_ix (rd_var (i := 9)) rd_int) rd_int)) (rda_cons (rd_op o2_add (rd_var (i := 5)) rd_int) rda_nil))))))))
      (rds_seq (rds_for (rdi_range1 (rda_cons (rd_var (i := 0)) rda_nil)) (rdg_name (vs := [2]) (by decide)) (rds_seq (rds_set (rd_lc (rdj_of (rdi_enum (rda_cons (rd_var (i := 1)) rda_nil))) (rdg_two (vs := [5, 6]) (by decide) (by decide)) (rdt_test (rd_op o2_in (rd_var (i := 2)) (rd_var (i := 6)))) (rd_var (i := 5))))
      (rds_seq (rds_set (rd_lc (rdj_of (rdi_list (rd_var (i := 10)))) (rdg_name (vs := [5]) (by decide)) (rdt_test (rd_op o2_eq (rd_lc (rdj_of (rdi_list (rd_var (i := 10)))) (rdg_name (vs := [8]) (by decide)) (rdt_test (rd_op o2_cmp (rd_cb cal_len (rda_cons (rd_op o2_ix (rd_var (i := 1)) (rd_var (i := 8))) rda_nil)) (rd_cb cal_len (rda_cons (rd_op o2_ix (rd_var (i := 1)) (rd_var (i := 5))) rda_nil)))) rd_int) (rd_lst rda_nil))) (rd_var (i := 5))))
      (rds_appO (i := 4) (rd_if (rdt_test (rd_op o2_eq (rd_var (i := 11)) (rd_lst rda_nil))) rd_int (rd_op o2_add (rd_op o2_ix (rd_var (i := 11)) rd_int) rd_int))))))
      (rds_ret (rd_tup (rda_cons (rd_cb cal_tuple (rda_cons (rd_cb cal_sortT (rda_cons (rd_lc (rdj_own (i := 3)) (rdg_name (vs := [12]) (by decide)) rdt_yes (rd_tup (rda_cons (rd_cb cal_pair (rda_cons (rd_var (i := 12)) rda_nil)) (rda_cons (rd_cb cal_pair (rda_cons (rd_var (i := 12)) rda_nil)) rda_nil)))) rda_nil)) rda_nil)) (rda_cons (rd_tupO (i := 4)) rda_nil))))))), ?_⟩
  rintro ss n P ⟨many, ls, rfl, hm, f, p⟩
  walk_at "dl"
  have fl := f.ln
  have hll : (ls.map tupI).length = ls.length := List.length_map ..
  have lsh : ∀ i, i < ls.length → (lotN ls i).length ≤ 12 := fun i hi => by have := lotN_short f hi; omega
  have atl : ∀ {i : Nat}, i < ls.length → atD (ls.map tupI) (i : Int) = some (tupI (lotN ls i)) := fun h => at_nat (by rw [List.getElem?_map, (lotN_mem h).2]; rfl)
  refine ⟨fun i ρ n' => n' = n ∧ ∃ (u2 u5 u6 u7 u8 u9 u10 u11 u12 u13 u14 : SV), ρ = [.d (.int many), .d (.tup (ls.map tupI)), u2, .ol ((List.range i).map (parD ls)), .ol [], u5, u6, u7, u8, u9, u10, u11, u12, u13, u14], ⟨rfl, _, _, _, _, _, _, _, _, _, _, _, rfl⟩, ?_, ?_⟩
  · rintro i x ρ n' hx ⟨rfl, u2, u5, u6, u7, u8, u9, u10, u11, u12, u13, u14, rfl⟩
    rw [enumD_get, List.getElem?_map] at hx
    obtain ⟨w, hw, rfl⟩ := Option.map_eq_some_iff.mp hx
    obtain ⟨lot, hlot, rfl⟩ := Option.map_eq_some_iff.mp hw
    have hi : i < ls.length := (List.getElem?_eq_some_iff.mp hlot).1
    have elot : lot = lotN ls i := by
      have := (lotN_mem hi).2
      rw [hlot] at this
      exact Option.some.inj this
    subst elot
    clear hx hw
    show _
    walk_at "dl"
    rw [hll]
    have hlm : ((lotN ls i).map D.int).length ≤ 100000 := by rw [List.length_map]; have := lsh i hi; omega
    have eir : (rangeD 0 ((ls.length : Int)).toNat).length = ls.length := range_len
    refine ⟨by omega, by omega, fun j ρ n2 => n2 = n' ∧ ∃ (v8 v9 v10 v11 v12 v13 v14 : SV), ρ = [.d (.int many), .d (.tup (ls.map tupI)), u2, .ol ((List.range i).map (parD ls)), .ol [], .d (.int (i : Nat)), .d (tupI (lotN ls i)), .ol (((List.range j).filter (abvB ls i)).map natD), v8, v9, v10, v11, v12, v13, v14], ⟨rfl, _, _, _, _, _, _, _, rfl⟩, ?_, ?_⟩
    · rintro j x ρ n2 hx ⟨rfl, v8, v9, v10, v11, v12, v13, v14, rfl⟩
      obtain ⟨hj, rfl⟩ := range_get hx
      clear hx
      show _
      walk_at "dl"
      by_cases hji : j = i
      · subst hji
        have e : abvB ls j j = false := by unfold abvB; simp
        rw [show (!decide (((j : Nat) : Int) = ((j : Nat) : Int))) = false by simp]
        rw [range_filter_no e]
        exact ⟨_, _, _, _, _, _, _, rfl⟩
      · rw [show (!decide (((j : Nat) : Int) = ((i : Nat) : Int))) = true by simp; omega]
        refine ⟨hlm, compM_filter (f := fun x => if notInB (lotN ls j) x then some (.int 1) else none) (fun y hy n3 k q => ?_) (eq_ones ?_)⟩
        · obtain ⟨v, _, rfl⟩ := List.mem_map.mp hy
          refine ⟨_, atl hj, v, rfl, lotN ls j, rfl, ?_⟩
          rw [any_notIn]
          simp only [notInB] at q
          cases e : decide (v ∈ lotN ls j) <;> simp only [e] at q ⊢ <;> simpa using q
        · rw [notIn_all]
          cases e : subB (lotN ls i) (lotN ls j) with
          | true =>
            have e2 : abvB ls i j = true := by unfold abvB; rw [e]; simp [hji]
            rw [range_filter_yes e2, List.map_append]
            exact ⟨by rw [List.length_map]; have := List.length_filter_le (abvB ls i) (List.range j); rw [List.length_range] at this; omega, rfl, _, _, _, _, _, _, _, rfl⟩
          | false =>
            have e2 : abvB ls i j = false := by unfold abvB; rw [e]; simp
            rw [range_filter_no e2]
            exact ⟨rfl, _, _, _, _, _, _, _, rfl⟩
    · rintro ρ n2 ⟨rfl, v8, v9, v10, v11, v12, v13, v14, rfl⟩
      rw [eir]
      have eab : (List.range ls.length).filter (abvB ls i) = aboveN ls i := rfl
      rw [eab]
      have hbl : (aboveN ls i).length ≤ 21 := by
        have := List.length_filter_le (abvB ls i) (List.range ls.length)
        rw [List.length_range] at this
        rw [← eab]
        omega
      have habm : ∀ k ∈ aboveN ls i, k < ls.length := fun k hk => (aboveN_mem.mp hk).1
      show _ ∧ _
      have hpar : parN ls i = headN (leastN ls (aboveN ls i)) := rfl
      generalize aboveN ls i = ab at hbl habm hpar ⊢
      refine ⟨by rw [List.length_map]; omega, compM_filter (f := leastF ls ab) (fun y hy n3 k q => ?_) ?_⟩
      · obtain ⟨a, ha, rfl⟩ := List.mem_map.mp hy
        show _
        unfold natD
        walk_at "dl"
        refine ⟨by rw [List.length_map]; omega, compM_filter (f := fun x => if shortB ls a x then some (.int 1) else none) (fun z hz n4 k4 q4 => ?_) (eq_ones ?_)⟩
        · obtain ⟨b, hb, rfl⟩ := List.mem_map.mp hz
          refine ⟨_, atl (habm b hb), _, atl (habm a ha), ?_⟩
          have q5 : k4 (if decide ((lotN ls b).length < (lotN ls a).length) then some (.int 1) else none) n4 := q4
          show (match decide ((((lotN ls b).map D.int).length : Int) < (((lotN ls a).map D.int).length : Int)) with | true => k4 (some (D.int 1)) n4 | false => k4 none n4)
          rw [List.length_map, List.length_map, show decide (((lotN ls b).length : Int) < ((lotN ls a).length : Int)) = decide ((lotN ls b).length < (lotN ls a).length) from decide_eq_decide.mpr (by omega)]
          cases e : decide ((lotN ls b).length < (lotN ls a).length) <;> simp only [e] at q5 ⊢ <;> simpa using q5
        · have e0 : ((ab.map fun k : Nat => D.int ((k : Nat) : Int)).all fun x => !shortB ls a x) = leastB ls ab a := short_all
          rw [e0]
          have q5 : k (match leastB ls ab a with | true => some (.int ((a : Nat) : Int)) | false => none) n3 := q
          cases e : leastB ls ab a with
          | true =>
            rw [e] at q5
            exact q5
          | false =>
            rw [e] at q5
            exact q5
      · rw [leastF_map]
        walk_at "dl"
        have en : (ab.filter (leastB ls ab)).map natD = ((ab.filter (leastB ls ab)).map Int.ofNat).map D.int := by rw [List.map_map]; rfl
        have hps : (List.range (i + 1)).map (parD ls) = (List.range i).map (parD ls) ++ [parD ls i] := by rw [List.range_succ, List.map_append]; rfl
        have hpl : ((List.range i).map (parD ls)).length < 100000 := by rw [List.length_map, List.length_range]; omega
        rw [en]
        refine eq_ints ?_
        have hpar' : parN ls i = headN (ab.filter (leastB ls ab)) := hpar
        cases el : ab.filter (leastB ls ab) with
        | nil =>
          rw [el] at hpar'
          have e1 : parD ls i = .tup [.int 0, .int ((i : Int) + 1)] := by unfold parD; rw [hpar']; rfl
          rw [e1] at hps
          exact ⟨hpl, _, _, _, _, _, _, _, _, _, _, _, by rw [hps]⟩
        | cons j l =>
          rw [el] at hpar'
          have e1 : parD ls i = .tup [.int ((j : Int) + 1), .int ((i : Int) + 1)] := by unfold parD; rw [hpar']; rfl
          rw [e1] at hps
          refine ⟨.int (j : Int), at_zero, ?_⟩
          exact ⟨hpl, _, _, _, _, _, _, _, _, _, _, _, by rw [hps]⟩
  · rintro ρ n' ⟨rfl, u2, u5, u6, u7, u8, u9, u10, u11, u12, u13, u14, rfl⟩
    walk_at "dl"
    have een : (enumD 0 (ls.map tupI)).length = ls.length := by rw [enumD_len, hll]
    rw [een]
    have eir : (rangeD 0 ((many : Int)).toNat).length = many := range_len
    refine ⟨by omega, by omega, fun v ρ n2 => n2 = n' ∧ ∃ (v2 v5 v6 v7 v8 v9 v10 v11 v12 v13 v14 : SV), ρ = [.d (.int many), .d (.tup (ls.map tupI)), v2, .ol ((List.range ls.length).map (parD ls)), .ol ((List.range v).map (seatD ls)), v5, v6, v7, v8, v9, v10, v11, v12, v13, v14], ⟨rfl, _, _, _, _, _, _, _, _, _, _, _, rfl⟩, ?_, ?_⟩
    · rintro v x ρ n2 hx ⟨rfl, v2, v5, v6, v7, v8, v9, v10, v11, v12, v13, v14, rfl⟩
      obtain ⟨hv, rfl⟩ := range_get hx
      clear hx
      show _
      walk_at "dl"
      refine ⟨by rw [een]; omega, compM_filter (f := ownF (v : Int)) (fun y hy n3 k q => ?_) ?_⟩
      · obtain ⟨j, hj, rfl⟩ := enum_lots hy
        refine ⟨(v : Int), lotN ls j, rfl, rfl, ?_⟩
        have q5 : k (match decide ((v : Int) ∈ intsOf ((lotN ls j).map D.int)) with | true => some (.int ((j : Nat) : Int)) | false => none) n3 := q
        rw [intsOf_map] at q5
        rw [show ((lotN ls j).any fun z => z == (v : Int)) = decide ((v : Int) ∈ lotN ls j) from any_in]
        cases e : decide ((v : Int) ∈ lotN ls j) with
        | true =>
          rw [e] at q5
          exact q5
        | false =>
          rw [e] at q5
          exact q5
      · rw [ownF_map]
        have hseat : seatN ls (Int.ofNat v) = headN (leastN ls (ownN ls (v : Int))) := rfl
        have hbl : (ownN ls (v : Int)).length ≤ 21 := by
          have := List.length_filter_le (fun i => decide ((v : Int) ∈ lotN ls i)) (List.range ls.length)
          rw [List.length_range] at this
          unfold ownN
          omega
        have habm : ∀ k ∈ ownN ls (v : Int), k < ls.length := fun k hk => (ownN_mem.mp hk).1
        generalize ownN ls (v : Int) = ab at hbl habm hseat ⊢
        show _ ∧ _
        refine ⟨by rw [List.length_map]; omega, compM_filter (f := leastF ls ab) (fun y hy n3 k q => ?_) ?_⟩
        · obtain ⟨a, ha, rfl⟩ := List.mem_map.mp hy
          show _
          unfold natD
          walk_at "dl"
          refine ⟨by rw [List.length_map]; omega, compM_filter (f := fun x => if shortB ls a x then some (.int 1) else none) (fun z hz n4 k4 q4 => ?_) (eq_ones ?_)⟩
          · obtain ⟨b, hb, rfl⟩ := List.mem_map.mp hz
            refine ⟨_, atl (habm b hb), _, atl (habm a ha), ?_⟩
            have q5 : k4 (if decide ((lotN ls b).length < (lotN ls a).length) then some (.int 1) else none) n4 := q4
            show (match decide ((((lotN ls b).map D.int).length : Int) < (((lotN ls a).map D.int).length : Int)) with | true => k4 (some (D.int 1)) n4 | false => k4 none n4)
            rw [List.length_map, List.length_map, show decide (((lotN ls b).length : Int) < ((lotN ls a).length : Int)) = decide ((lotN ls b).length < (lotN ls a).length) from decide_eq_decide.mpr (by omega)]
            cases e : decide ((lotN ls b).length < (lotN ls a).length) <;> simp only [e] at q5 ⊢ <;> simpa using q5
          · have e0 : ((ab.map fun k : Nat => D.int ((k : Nat) : Int)).all fun x => !shortB ls a x) = leastB ls ab a := short_all
            rw [e0]
            have q5 : k (match leastB ls ab a with | true => some (.int ((a : Nat) : Int)) | false => none) n3 := q
            cases e : leastB ls ab a with
            | true =>
              rw [e] at q5
              exact q5
            | false =>
              rw [e] at q5
              exact q5
        · rw [leastF_map]
          walk_at "dl"
          have en : (ab.filter (leastB ls ab)).map natD = ((ab.filter (leastB ls ab)).map Int.ofNat).map D.int := by rw [List.map_map]; rfl
          have hps : (List.range (v + 1)).map (seatD ls) = (List.range v).map (seatD ls) ++ [seatD ls v] := by rw [List.range_succ, List.map_append]; rfl
          have hpl : ((List.range v).map (seatD ls)).length < 100000 := by rw [List.length_map, List.length_range]; omega
          rw [en]
          refine eq_ints ?_
          have hpar' : seatN ls (Int.ofNat v) = headN (ab.filter (leastB ls ab)) := hseat
          cases el : ab.filter (leastB ls ab) with
          | nil =>
            rw [el] at hpar'
            have e1 : seatD ls v = .int 0 := by unfold seatD; rw [hpar']; rfl
            rw [e1] at hps
            exact ⟨hpl, _, _, _, _, _, _, _, _, _, _, _, by rw [hps]⟩
          | cons j l =>
            rw [el] at hpar'
            have e1 : seatD ls v = .int ((j : Int) + 1) := by unfold seatD; rw [hpar']; rfl
            rw [e1] at hps
            refine ⟨.int (j : Int), at_zero, ?_⟩
            exact ⟨hpl, _, _, _, _, _, _, _, _, _, _, _, by rw [hps]⟩
    · rintro ρ n2 ⟨rfl, v2, v5, v6, v7, v8, v9, v10, v11, v12, v13, v14, rfl⟩
      rw [eir]
      walk_at "dl"
      refine ⟨by rw [List.length_map, List.length_range]; omega, compM_map (f := mmF) (fun x hx n3 k q => ?_) ?_⟩
      · obtain ⟨i, _, rfl⟩ := List.mem_map.mp hx
        exact q
      · refine ⟨rawT ls, by unfold rawT; rw [List.map_map, List.map_map]; exact List.map_congr_left fun i _ => mmF_at, hd_ok fun l hl => ?_, ?_⟩
        · obtain ⟨i, _, rfl⟩ := List.mem_map.mp hl
          unfold tieL
          simp
        · have es : (List.range many).map (seatD ls) = (seatsN ls many).map D.int := by unfold seatsN; rw [List.map_map]; rfl
          have et : (sortL (rawT ls)).map tupI = (sortT ls).map pairI := by
            unfold sortT
            rw [List.map_map]
            refine List.map_congr_left fun l hl => ?_
            obtain ⟨i, _, rfl⟩ := List.mem_map.mp ((sortL_perm _).mem_iff.mp hl)
            rfl
          rw [es, et]
          exact p _ (norm_sort f)


abbrev s_law_some_partings : Stmt := topS 32
theorem sc_law_some_partings : FnScope ["state", "many", "found", "lap", "left", "dense", "one", "other", "lot", "spot"] ["state", "many"] (defScope s_law_some_partings) := ⟨rfl, rfl, rfl, by decide +kernel, rfl, by decide +kernel, by decide +kernel⟩
theorem ok_law_some_partings (T : Txt K mg cs tk0) (D : DefAt K mg "_law_some_partings" s_law_some_partings ["state", "many"]) (c_law_pick : Has P w K mg base CX0 2 "_law_pick" ["state", "several"] (sp0 K TT ds_law_pick)) (c_law_draw : Has P w K mg base CX0 1 "_law_draw" ["state", "size_here"] (sp0 K TT ds_law_draw)) : Has P w K mg base CX0 3 "_law_some_partings" ["state", "many"] (sp0 K TT ds_law_some_partings) := by
  obtain ⟨f, fd, F, hm, hk, hb⟩ := D
  obtain ⟨_, _, c_law_pick_ok, c_law_pick_m, c_law_pick_k, c_law_pick_b⟩ := c_law_pick
  obtain ⟨_, _, c_law_draw_ok, c_law_draw_m, c_law_draw_k, c_law_draw_b⟩ := c_law_draw
  refine ⟨f, fd, F.okD sc_law_some_partings (len_law_some_partings) (fun S cdv A outer s H E hr => ?_), hm, hk, hb⟩
  refine ⟨_, _, (pss_cons (ps_asg (pe_tup (pa_cons (pe_lc (own := [("spot", 9)]) (g := gName 9) rfl sc_law_some_partings.nd (pi_range2 (by rfl) T.n_range (pa_cons pe_int (pa_cons (pv 1) pa_nil))) (blkOk_by (N := ["state", "many", "found", "lap", "left", "dense", "one", "other", "lot", "spot"]) (own := [("spot", 9)]) (sc := defScope s_law_some_partings) (by decide +kernel)) (fun _ _ _ _ _ => (pg_name (i := 9) sc_law_some_partings.nd rfl (by first | exact Or.inl rfl | exact Or.inr rfl))) (fun _ _ _ _ _ => pts_nil) (fun _ _ _ _ _ => (pe_tup (pa_cons (pv 9) pa_nil)))) (pa_cons (pe_call c_law_pick_ok (hr.mono (by decide)) rfl c_law_pick_m c_law_pick_k c_law_pick_b .nil pass0 (pa_cons (pv 0) (pa_cons (pe_lst (pa_cons pe_int (pa_cons pe_int (pa_cons pe_int (pa_cons pe_int pa_nil))))) pa_nil))) pa_nil))) (pg_tup rfl (pgs_cons (pg_name (i := 4) sc_law_some_partings.nd rfl (by first | exact Or.inl rfl | exact Or.inr rfl)) (pgs_cons (pg_name (i := 5) sc_law_some_partings.nd rfl (by first | exact Or.inl rfl | exact Or.inr rfl)) pgs_nil))))
      (pss_cons (ps_setLc (i := 2) (own := [("lot", 8)]) (g := gName 8) rfl sc_law_some_partings.nd rfl rfl (sw_true rfl rfl rfl (by decide +kernel)) (pi_list (pv 4)) (blkOk_by (N := ["state", "many", "found", "lap", "left", "dense", "one", "other", "lot", "spot"]) (own := [("lot", 8)]) (sc := defScope s_law_some_partings) (by decide +kernel)) (fun _ _ _ _ _ => (pg_name (i := 8) sc_law_some_partings.nd rfl (by first | exact Or.inl rfl | exact Or.inr rfl))) (fun _ _ _ _ _ => (pts_one (pt_cmpR op_lt (pe_call c_law_draw_ok (hr.mono (by decide)) rfl c_law_draw_m c_law_draw_k c_law_draw_b .nil pass0 (pa_cons (pv 0) (pa_cons pe_int pa_nil))) (pv 5) (nomark _)))) (fun _ _ _ _ _ => (pv 8)))
      (pss_cons (ps_for PassesOwn.never rfl (pi_range1 (by rfl) T.n_range (pa_cons (pe_op op_sub (pv 1) pe_int) pa_nil)) (pg_name (i := 3) sc_law_some_partings.nd rfl (by first | exact Or.inl rfl | exact Or.inr rfl)) (pss_cons (ps_set (i := 6) sc_law_some_partings.nd rfl (by first | exact Or.inl rfl | exact Or.inr rfl) (pe_bm PySem.F.plainAttrs_list PySem.F.slot_list_pop PySem.F.type_list_pop mt_popAt (pv 4) (pa_cons (pe_call c_law_draw_ok (hr.mono (by decide)) rfl c_law_draw_m c_law_draw_k c_law_draw_b .nil pass0 (pa_cons (pv 0) (pa_cons (pe_callB call_lenU (by rfl) T.n_len (by decide +kernel) (pa_cons (pv 4) pa_nil)) pa_nil))) pa_nil)))
      (pss_cons (ps_set (i := 7) sc_law_some_partings.nd rfl (by first | exact Or.inl rfl | exact Or.inr rfl) (pe_bm PySem.F.plainAttrs_list PySem.F.slot_list_pop PySem.F.type_list_pop mt_popAt (pv 4) (pa_cons (pe_call c_law_draw_ok (hr.mono (by decide)) rfl c_law_draw_m c_law_draw_k c_law_draw_b .nil pass0 (pa_cons (pv 0) (pa_cons (pe_callB call_lenU (by rfl) T.n_len (by decide +kernel) (pa_cons (pv 4) pa_nil)) pa_nil))) pa_nil)))
      (pss_cons (ps_set (i := 8) sc_law_some_partings.nd rfl (by first | exact Or.inl rfl | exact Or.inr rfl) (pe_callTy call_tupU (by rfl) T.n_tuple (by decide +kernel) (pa_cons (pe_callB (SCo.cr_sortTI hr) (by rfl) T.n_sorted (by decide +kernel) (pa_cons (pe_op op_addU (pv 6) (pv 7)) pa_nil)) pa_nil)))
      (pss_cons (ps_expr (pe_bm PySem.F.plainAttrs_list PySem.F.slot_list_append PySem.F.type_list_append mt_append (pv 4) (pa_cons (pv 8) pa_nil)))
      (pss_one (ps_if (pt_cmpR op_lt (pe_call c_law_draw_ok (hr.mono (by decide)) rfl c_law_draw_m c_law_draw_k c_law_draw_b .nil pass0 (pa_cons (pv 0) (pa_cons pe_int pa_nil))) (pv 5) (nomark _)) (pss_one (ps_expr (pe_bm PySem.F.plainAttrs_list PySem.F.slot_list_append PySem.F.type_list_append mt_append (pv 2) (pa_cons (pv 8) pa_nil)))) pss_nil)))))))
      (pss_one (ps_ret (pe_callTy call_tupU (by rfl) T.n_tuple (by decide +kernel) (pa_cons (pe_callB (SCo.cr_sortT hr) (by rfl) T.n_sorted (by decide +kernel) (pa_cons (pv 2) pa_nil)) pa_nil))))))),
    (rds_seq (rds_parG (i := 4) (j := 5) (rdm_n (rdn_lc (rdj_of (rdi_range2 (rda_cons rd_int (rda_cons (rd_var (i := 1)) rda_nil)))) (rdg_name (vs := [9]) (by decide)) rdt_yes (rd_tup (rda_cons (rd_var (i := 9)) rda_nil)))) (rd_call0 (E := E0) (rda_st (i := 0) (rda_cons (rd_lst (rda_cons rd_int (rda_cons rd_int (rda_cons rd_int (rda_cons rd_int rda_nil))))) rda_nil))))
      (rds_seq (rds_setO (rdn_lc (rdj_own (i := 4)) (rdg_name (vs := [8]) (by decide)) (rdt_test (rd_op o2_cmp (rd_call0 (E := E0) (rda_st (i := 0) (rda_cons rd_int rda_nil))) (rd_var (i := 5)))) (rd_var (i := 8))))
      (rds_seq (rds_for (rdi_range1 (rda_cons (rd_op o2_sub (rd_var (i := 1)) rd_int) rda_nil)) (rdg_name (vs := [3]) (by decide)) (rds_seq (rds_setPop (i := 6) (j := 4) (rd_call0 (E := E0) (rda_st (i := 0) (rda_cons (rd_lenO (i := 4)) rda_nil))))
      (rds_seq (rds_setPop (i := 7) (j := 4) (rd_call0 (E := E0) (rda_st (i := 0) (rda_cons (rd_lenO (i := 4)) rda_nil))))
      (rds_seq (rds_set (rd_cb cal_tuple (rda_cons (rd_cb cal_sortTI (rda_cons (rd_op o2_add (rd_var (i := 6)) (rd_var (i := 7))) rda_nil)) rda_nil)))
      (rds_seq (rds_appO (i := 4) (rd_var (i := 8)))
      (rds_if (rdt_test (rd_op o2_cmp (rd_call0 (E := E0) (rda_st (i := 0) (rda_cons rd_int rda_nil))) (rd_var (i := 5)))) (rds_appO (i := 2) (rd_var (i := 8))) rds_next))))))
      (rds_frz (i := 2) (rds_ret (rd_cb cal_tuple (rda_cons (rd_cb cal_sortT (rda_cons (rd_var (i := 2)) rda_nil)) rda_nil))))))), ?_⟩
  rintro ss n P ⟨many, rfl, h1, h2, hn, p⟩
  walk_at "dl"
  have hn' : n + 500 < 1099511627776 := hn
  have ol : (ones1 many).length = many - 1 := by unfold ones1; rw [List.length_map, List.length_range]
  refine ⟨⟨by omega, by omega, by omega, by omega⟩, by rw [rangeA_len]; omega, compM_map (f := oneT) (fun x hx m k q => q) ?_⟩
  rw [ones1_D h1]
  refine ⟨_, .inr rfl, by simp, by simp, lim (by omega), fun d hd m1 hm1 => ?_⟩
  obtain ⟨dn, rfl⟩ : ∃ dn : Int, d = .int dn := by
    simp only [List.mem_cons, List.not_mem_nil, or_false] at hd
    rcases hd with rfl | rfl | rfl | rfl <;> exact ⟨_, rfl⟩
  refine ⟨by rw [List.length_map]; omega, compM_sub (c := 1) (N := m1 + 12) _ _ _ (by rw [List.length_map, ol]; omega) (fun x hx m k hm hk => ?_) (fun ds m' hm hsub => ?_)⟩
  · refine ⟨4, rfl, by decide, by decide, lim (by omega), fun r m2 r0 r1 hm2 => ?_⟩
    show (match decide (r < dn) with | true => k (some x) m2 | false => k none m2)
    by_cases hr : r < dn
    · rw [decide_eq_true hr]
      exact hk _ _ (by omega) (.inr rfl)
    · rw [decide_eq_false hr]
      exact hk _ _ (by omega) (.inl rfl)
  · rw [List.length_map, ol] at hm
    obtain ⟨Fd, hsF, rfl⟩ := List.sublist_map_iff.mp hsub
    refine ⟨by omega, by omega, fun t ρ n2 => n2 ≤ m' + 10 * t ∧ ∃ (L Fd : List (List Int)) (u3 u6 u7 u8 u9 : SV), ρ = [.st, .d (.int many), .ol (Fd.map tupI), u3, .ol (L.map tupI), .d (.int dn), u6, u7, u8, u9] ∧ PartI many L Fd t, ⟨by omega, _, _, _, _, _, _, _, rfl, partI_start hsF⟩, ?_, ?_⟩
    · rintro t x ρ n2 hx ⟨hn2, L, Fd, u3, u6, u7, u8, u9, rfl, hI⟩
      have ht : t < many - 2 := by
        have := (List.getElem?_eq_some_iff.mp hx).1
        rw [rangeA_len] at this
        omega
      have hll := hI.ll
      have hfl := hI.fl
      walk_at "dl"
      have hL : (L.map tupI).length = L.length := List.length_map ..
      refine ⟨_, rfl, by rw [hL]; omega, by rw [hL]; omega, lim (by omega), fun a n3 a0 a1 hn3 => ?_⟩
      obtain ⟨a, rfl⟩ := Int.eq_ofNat_of_zero_le a0
      rw [hL] at a1
      have ha : a < L.length := by omega
      refine ⟨a, rfl, by omega, tupI (L[a]), by rw [List.getElem?_map, List.getElem?_eq_getElem ha]; rfl, ?_⟩
      have eL2 : (L.map tupI).eraseIdx a = (L.eraseIdx a).map tupI := erase_map
      have pm1 : (L[a] :: L.eraseIdx a).Perm L := _root_.L2.erase_perm L a L[a] (List.getElem?_eq_getElem ha)
      have hl2 := pm1.length_eq
      rw [List.length_cons] at hl2
      generalize L[a] = one at pm1 ⊢
      generalize L.eraseIdx a = L2 at pm1 hl2 eL2
      rw [eL2]
      have hL2 : (L2.map tupI).length = L2.length := List.length_map ..
      refine ⟨_, rfl, by rw [hL2]; omega, by rw [hL2]; omega, lim (by omega), fun b n4 b0 b1 hn4 => ?_⟩
      obtain ⟨b, rfl⟩ := Int.eq_ofNat_of_zero_le b0
      rw [hL2] at b1
      have hb : b < L2.length := by omega
      refine ⟨b, rfl, by omega, tupI (L2[b]), by rw [List.getElem?_map, List.getElem?_eq_getElem hb]; rfl, ?_⟩
      have eL3 : (L2.map tupI).eraseIdx b = (L2.eraseIdx b).map tupI := erase_map
      have pm2 : (L2[b] :: L2.eraseIdx b).Perm L2 := _root_.L2.erase_perm L2 b L2[b] (List.getElem?_eq_getElem hb)
      generalize L2[b] = other at pm2 ⊢
      generalize L2.eraseIdx b = L3 at pm2 eL3
      rw [eL3]
      have pm : (one :: other :: L3).Perm L := (List.Perm.cons one pm2).trans pm1
      have dj : (one :: other :: L3).Pairwise Dj := (pm.pairwise_iff fun h => Dj.symm h).mpr hI.dj
      have o1 := hI.bs one (pm.mem_iff.mp List.mem_cons_self)
      have o2 := hI.bs other (pm.mem_iff.mp (List.mem_cons_of_mem _ List.mem_cons_self))
      have z1 := okL_len o1
      have z2 := okL_len o2
      have hl3 := pm.length_eq
      simp only [List.length_cons] at hl3
      show _ ∧ _
      refine ⟨by rw [List.length_map, List.length_map]; omega, one ++ other, by rw [List.map_append], fun lot lp lw => ?_⟩
      have dd : Dj one other := (List.pairwise_cons.mp dj).1 other List.mem_cons_self
      have nd : (one ++ other).Nodup := by
        rw [List.nodup_append]
        exact ⟨o1.2.1.imp fun h => by omega, o2.2.1.imp fun h => by omega, fun a ha b hb e => dd a ha (by rw [e]; exact hb)⟩
      have ls : lot.Pairwise (· < ·) := (lw.and (lp.nodup_iff.mpr nd)).imp fun h => by
        obtain ⟨h1, h2⟩ := h
        omega
      have lm : ∀ v, v ∈ lot ↔ v ∈ one ∨ v ∈ other := fun v => by rw [lp.mem_iff, List.mem_append]
      have eL : L3.map tupI ++ [D.tup (lot.map D.int)] = (L3 ++ [lot]).map tupI := by rw [List.map_append]; rfl
      have eF : Fd.map tupI ++ [D.tup (lot.map D.int)] = (Fd ++ [lot]).map tupI := by rw [List.map_append]; rfl
      refine ⟨by rw [List.length_map]; omega, 4, rfl, by decide, by decide, lim (by omega), fun r n5 r0 r1 hn5 => ?_⟩
      rw [eL, eF]
      show (match decide (r < dn) with | true => _ | false => _ : Prop)
      by_cases hr : r < dn
      · rw [decide_eq_true hr]
        exact ⟨by rw [List.length_map]; omega, by omega, _, _, _, _, _, _, _, rfl, partI_step hI pm ls lm (.inr rfl)⟩
      · rw [decide_eq_false hr]
        exact ⟨by omega, _, _, _, _, _, _, _, rfl, partI_step hI pm ls lm (.inl rfl)⟩
    · rintro ρ n2 ⟨hn2, L, Fd, u3, u6, u7, u8, u9, rfl, hI⟩
      rw [rangeA_len] at hI hn2
      have f : Fam many Fd := hI.fam h2 (by omega)
      walk_at "dl"
      exact ⟨Fd, rfl, hd_ok f.ne, p _ _ (f.perm (sortL_perm Fd)) (risL_of (sortL_lt f.nd)) (by omega)⟩


abbrev s_law_swelled : Stmt := topS 37
theorem sc_law_swelled : FnScope ["state", "shape", "fashion", "spot", "at", "some", "item"] ["state", "shape"] (defScope s_law_swelled) := ⟨rfl, rfl, rfl, by decide +kernel, rfl, by decide +kernel, by decide +kernel⟩
theorem ok_law_swelled (T : Txt K mg cs tk0) (D : DefAt K mg "_law_swelled" s_law_swelled ["state", "shape"]) (c_law_draw : Has P w K mg base CX0 1 "_law_draw" ["state", "size_here"] (sp0 K TT ds_law_draw)) (c_law_pick : Has P w K mg base CX0 2 "_law_pick" ["state", "several"] (sp0 K TT ds_law_pick)) (c_law_odd : Has P w K mg base CX0 3 "_law_odd" ["state"] (sp0 K TT ds_law_odd)) (c_law_mixed : Has P w K mg base CX0 2 "_law_mixed" ["state", "several"] (sp0 K TT ds_law_mixed)) (c_law_less : Has P w K mg base CX0 1 "_law_less" ["row", "spot"] (sp0 K TT ds_law_less)) (c_law_put : Has P w K mg base CX0 1 "_law_put" ["row", "spot", "item"] (sp0 K TT ds_law_put)) : Has P w K mg base CX0 4 "_law_swelled" ["state", "shape"] (sp0 K TT ds_law_swelled) := by
  obtain ⟨f, fd, F, hm, hk, hb⟩ := D
  obtain ⟨_, _, c_law_draw_ok, c_law_draw_m, c_law_draw_k, c_law_draw_b⟩ := c_law_draw
  obtain ⟨_, _, c_law_pick_ok, c_law_pick_m, c_law_pick_k, c_law_pick_b⟩ := c_law_pick
  obtain ⟨_, _, c_law_odd_ok, c_law_odd_m, c_law_odd_k, c_law_odd_b⟩ := c_law_odd
  obtain ⟨_, _, c_law_mixed_ok, c_law_mixed_m, c_law_mixed_k, c_law_mixed_b⟩ := c_law_mixed
  obtain ⟨_, _, c_law_less_ok, c_law_less_m, c_law_less_k, c_law_less_b⟩ := c_law_less
  obtain ⟨_, _, c_law_put_ok, c_law_put_m, c_law_put_k, c_law_put_b⟩ := c_law_put
  refine ⟨f, fd, F.okD sc_law_swelled (len_law_swelled) (fun S cdv A outer s H E hr => ?_), hm, hk, hb⟩
  refine ⟨_, _, (pss_cons (ps_set (i := 2) sc_law_swelled.nd rfl (by first | exact Or.inl rfl | exact Or.inr rfl) (pe_call c_law_draw_ok (hr.mono (by decide)) rfl c_law_draw_m c_law_draw_k c_law_draw_b .nil pass0 (pa_cons (pv 0) (pa_cons pe_int pa_nil))))
      (pss_cons (ps_if (PW.pt (pw_or (pt_cmpR (op_eqU hr.units) (pv 2) pe_int (nomark _)) (pw_or1 (pt_cmpR (op_eqU hr.units) (pe_callB call_lenU (by rfl) T.n_len (by decide +kernel) (pa_cons (pv 1) pa_nil)) pe_int (nomark _))))) (pss_one (ps_ret (pe_call c_law_pick_ok (hr.mono (by decide)) rfl c_law_pick_m c_law_pick_k c_law_pick_b .nil pass0 (pa_cons (pv 0) (pa_cons (pe_lst (pa_cons (pe_call c_law_odd_ok (hr.mono (by decide)) rfl c_law_odd_m c_law_odd_k c_law_odd_b .nil pass0 (pa_cons (pv 0) pa_nil)) (pa_cons (pe_callTy call_rListU (by rfl) T.n_list (by decide +kernel) (pa_cons (pv 1) pa_nil)) (pa_cons (pe_op op_addU (pv 1) (pe_tup (pa_cons (pe_tup pa_nil) pa_nil))) (pa_cons (pe_op op_addU (pv 1) (pe_tup (pa_cons pe_non pa_nil))) pa_nil))))) pa_nil))))) pss_nil)
      (pss_cons (ps_set (i := 3) sc_law_swelled.nd rfl (by first | exact Or.inl rfl | exact Or.inr rfl) (pe_call c_law_draw_ok (hr.mono (by decide)) rfl c_law_draw_m c_law_draw_k c_law_draw_b .nil pass0 (pa_cons (pv 0) (pa_cons (pe_callB call_lenU (by rfl) T.n_len (by decide +kernel) (pa_cons (pv 1) pa_nil)) pa_nil))))
      (pss_cons (ps_if (pt_cmpR (op_eqU hr.units) (pv 2) pe_int (nomark _)) (pss_one (ps_ret (pe_callTy call_tupU (by rfl) T.n_tuple (by decide +kernel) (pa_cons (pe_call c_law_mixed_ok (hr.mono (by decide)) rfl c_law_mixed_m c_law_mixed_k c_law_mixed_b .nil pass0 (pa_cons (pv 0) (pa_cons (pv 1) pa_nil))) pa_nil)))) pss_nil)
      (pss_cons (ps_if (pt_cmpR (op_eqU hr.units) (pv 2) pe_int (nomark _)) (pss_one (ps_ret (pe_op op_addU (pe_op op_addU (pe_slice sl_U (pv 1) po_none (po_some (pv 3))) (pe_slice sl_U (pv 1) (po_some (pv 3)) (po_some (pe_op op_addU (pv 3) pe_int)))) (pe_slice sl_U (pv 1) (po_some (pv 3)) po_none)))) pss_nil)
      (pss_cons (ps_if (pt_cmpR (op_eqU hr.units) (pv 2) pe_int (nomark _)) (pss_one (ps_ret (pe_call c_law_less_ok (hr.mono (by decide)) rfl c_law_less_m c_law_less_k c_law_less_b .nil pass0 (pa_cons (pv 1) (pa_cons (pv 3) pa_nil))))) pss_nil)
      (pss_cons (ps_if (pt_cmpR (op_eqU hr.units) (pv 2) pe_int (nomark _)) (pss_one (ps_ret (pe_call c_law_put_ok (hr.mono (by decide)) rfl c_law_put_m c_law_put_k c_law_put_b .nil pass0 (pa_cons (pv 1) (pa_cons (pv 3) (pa_cons (pe_call c_law_pick_ok (hr.mono (by decide)) rfl c_law_pick_m c_law_pick_k c_law_pick_b .nil pass0 (pa_cons (pv 0) (pa_cons (pe_lst (pa_cons (pe_callTy call_rListU (by rfl) T.n_list (by decide +kernel) (pa_cons (pe_ix ix_seq (pv 1) (pv 3) (fun _ _ => rfl)) pa_nil)) (pa_cons (pe_call c_law_odd_ok (hr.mono (by decide)) rfl c_law_odd_m c_law_odd_k c_law_odd_b .nil pass0 (pa_cons (pv 0) pa_nil)) (pa_cons (pe_tup pa_nil) (pa_cons (pe_ix ix_seq (pe_ix ix_seq (pv 1) (pv 3) (fun _ _ => rfl)) pe_int (fun _ _ => rfl)) pa_nil))))) pa_nil))) pa_nil)))))) pss_nil)
      (pss_cons (ps_set (i := 4) sc_law_swelled.nd rfl (by first | exact Or.inl rfl | exact Or.inr rfl) (pe_call c_law_draw_ok (hr.mono (by decide)) rfl c_law_draw_m c_law_draw_k c_law_draw_b .nil pass0 (pa_cons (pv 0) (pa_cons (pe_callB call_lenU (by rfl) T.n_len (by decide +kernel) (pa_cons (pe_ix ix_seq (pv 1) (pv 3) (fun _ _ => rfl)) pa_nil)) pa_nil))))
      (pss_cons (ps_set (i := 5) sc_law_swelled.nd rfl (by first | exact Or.inl rfl | exact Or.inr rfl) (pe_lst (pa_cons (pe_un un_neg pe_int) (pa_cons pe_int (pa_cons pe_int (pa_cons pe_bl (pa_cons pe_non (pa_cons pe_str (pa_cons (pe_op op_addU (pe_callB call_lenU (by rfl) T.n_len (by decide +kernel) (pa_cons (pv 1) pa_nil)) pe_int) (pa_cons (pe_op op_addU (pe_callB call_lenU (by rfl) T.n_len (by decide +kernel) (pa_cons (pv 1) pa_nil)) pe_int) (pa_cons (pe_call c_law_draw_ok (hr.mono (by decide)) rfl c_law_draw_m c_law_draw_k c_law_draw_b .nil pass0 (pa_cons (pv 0) (pa_cons (pe_op op_addU (pe_callB call_lenU (by rfl) T.n_len (by decide +kernel) (pa_cons (pv 1) pa_nil)) pe_int) pa_nil))) pa_nil)))))))))))
      (pss_cons (ps_set (i := 6) sc_law_swelled.nd rfl (by first | exact Or.inl rfl | exact Or.inr rfl) (pe_call c_law_pick_ok (hr.mono (by decide)) rfl c_law_pick_m c_law_pick_k c_law_pick_b .nil pass0 (pa_cons (pv 0) (pa_cons (pe_op SCo.op_catL (pv 5) (pe_lst (pa_cons (pe_lst (pa_cons pe_int pa_nil)) (pa_cons pe_dnewK (pa_cons (pe_tup (pa_cons (pe_lst (pa_cons pe_int pa_nil)) pa_nil)) pa_nil))))) pa_nil))))
      (pss_cons (ps_if (pt_cmpR (op_eqU hr.units) (pv 2) pe_int (nomark _)) (pss_one (ps_ret (pe_call c_law_put_ok (hr.mono (by decide)) rfl c_law_put_m c_law_put_k c_law_put_b .nil pass0 (pa_cons (pv 1) (pa_cons (pv 3) (pa_cons (pe_callTy call_tupU (by rfl) T.n_tuple (by decide +kernel) (pa_cons (pe_revL (pe_callTy call_rListU (by rfl) T.n_list (by decide +kernel) (pa_cons (pe_ix ix_seq (pv 1) (pv 3) (fun _ _ => rfl)) pa_nil))) pa_nil)) pa_nil)))))) pss_nil)
      (pss_cons (ps_if (pt_cmpR (op_eqU hr.units) (pv 2) pe_int (nomark _)) (pss_one (ps_ret (pe_call c_law_put_ok (hr.mono (by decide)) rfl c_law_put_m c_law_put_k c_law_put_b .nil pass0 (pa_cons (pv 1) (pa_cons (pv 3) (pa_cons (pe_op op_addU (pe_ix ix_seq (pv 1) (pv 3) (fun _ _ => rfl)) (pe_tup (pa_cons (pv 6) pa_nil))) pa_nil)))))) pss_nil)
      (pss_one (ps_ret (pe_call c_law_put_ok (hr.mono (by decide)) rfl c_law_put_m c_law_put_k c_law_put_b .nil pass0 (pa_cons (pv 1) (pa_cons (pv 3) (pa_cons (pe_call c_law_put_ok (hr.mono (by decide)) rfl c_law_put_m c_law_put_k c_law_put_b .nil pass0 (pa_cons (pe_ix ix_seq (pv 1) (pv 3) (fun _ _ => rfl)) (pa_cons (pv 4) (pa_cons (pv 6) pa_nil)))) pa_nil)))))))))))))))))),
    (rds_seq (rds_set (rd_call0 (E := E0) (rda_st (i := 0) (rda_cons rd_int rda_nil))))
      (rds_seq (rds_if (rdt_or (rdt_test (rd_op o2_eq (rd_var (i := 2)) rd_int)) (rdt_test (rd_op o2_eq (rd_cb cal_len (rda_cons (rd_var (i := 1)) rda_nil)) rd_int))) (rds_ret (rd_call0 (E := E0) (rda_st (i := 0) (rda_cons (rd_lst (rda_cons (rd_call0 (E := E0) (rda_st (i := 0) rda_nil)) (rda_cons (rd_cb cal_list (rda_cons (rd_var (i := 1)) rda_nil)) (rda_cons (rd_op o2_add (rd_var (i := 1)) (rd_tup (rda_cons (rd_tup rda_nil) rda_nil))) (rda_cons (rd_op o2_add (rd_var (i := 1)) (rd_tup (rda_cons rd_non rda_nil))) rda_nil))))) rda_nil)))) rds_next)
      (rds_seq (rds_set (rd_call0 (E := E0) (rda_st (i := 0) (rda_cons (rd_cb cal_len (rda_cons (rd_var (i := 1)) rda_nil)) rda_nil))))
      (rds_seq (rds_if (rdt_test (rd_op o2_eq (rd_var (i := 2)) rd_int)) (rds_ret (rd_cb cal_tuple (rda_cons (rd_call0 (E := E0) (rda_st (i := 0) (rda_cons (rd_var (i := 1)) rda_nil))) rda_nil))) rds_next)
      (rds_seq (rds_if (rdt_test (rd_op o2_eq (rd_var (i := 2)) rd_int)) (rds_ret (rd_op o2_add (rd_op o2_add (rd_sl (rd_var (i := 1)) rdo_none (rdo_some (rd_var (i := 3)))) (rd_sl (rd_var (i := 1)) (rdo_some (rd_var (i := 3))) (rdo_some (rd_op o2_add (rd_var (i := 3)) rd_int)))) (rd_sl (rd_var (i := 1)) (rdo_some (rd_var (i := 3))) rdo_none))) rds_next)
      (rds_seq (rds_if (rdt_test (rd_op o2_eq (rd_var (i := 2)) rd_int)) (rds_ret (rd_call0 (E := E0) (rda_cons (rd_var (i := 1)) (rda_cons (rd_var (i := 3)) rda_nil)))) rds_next)
      (rds_seq (rds_if (rdt_test (rd_op o2_eq (rd_var (i := 2)) rd_int)) (rds_ret (rd_call0 (E := E0) (rda_cons (rd_var (i := 1)) (rda_cons (rd_var (i := 3)) (rda_cons (rd_call0 (E := E0) (rda_st (i := 0) (rda_cons (rd_lst (rda_cons (rd_cb cal_list (rda_cons (rd_op o2_ix (rd_var (i := 1)) (rd_var (i := 3))) rda_nil)) (rda_cons (rd_call0 (E := E0) (rda_st (i := 0) rda_nil)) (rda_cons (rd_tup rda_nil) (rda_cons (rd_op o2_ix (rd_op o2_ix (rd_var (i := 1)) (rd_var (i := 3))) rd_int) rda_nil))))) rda_nil))) rda_nil))))) rds_next)
      (rds_seq (rds_set (rd_call0 (E := E0) (rda_st (i := 0) (rda_cons (rd_cb cal_len (rda_cons (rd_op o2_ix (rd_var (i := 1)) (rd_var (i := 3))) rda_nil)) rda_nil))))
      (rds_seq (rds_set (rd_lst (rda_cons (rd_un o1_neg rd_int) (rda_cons rd_int (rda_cons rd_int (rda_cons rd_bl (rda_cons rd_non (rda_cons rd_str (rda_cons (rd_op o2_add (rd_cb cal_len (rda_cons (rd_var (i := 1)) rda_nil)) rd_int) (rda_cons (rd_op o2_add (rd_cb cal_len (rda_cons (rd_var (i := 1)) rda_nil)) rd_int) (rda_cons (rd_call0 (E := E0) (rda_st (i := 0) (rda_cons (rd_op o2_add (rd_cb cal_len (rda_cons (rd_var (i := 1)) rda_nil)) rd_int) rda_nil))) rda_nil)))))))))))
      (rds_seq (rds_set (rd_call0 (E := E0) (rda_st (i := 0) (rda_cons (rd_op o2_addL (rd_var (i := 5)) (rd_lst (rda_cons (rd_lst (rda_cons rd_int rda_nil)) (rda_cons rd_dnew (rda_cons (rd_tup (rda_cons (rd_lst (rda_cons rd_int rda_nil)) rda_nil)) rda_nil))))) rda_nil))))
      (rds_seq (rds_if (rdt_test (rd_op o2_eq (rd_var (i := 2)) rd_int)) (rds_ret (rd_call0 (E := E0) (rda_cons (rd_var (i := 1)) (rda_cons (rd_var (i := 3)) (rda_cons (rd_cb cal_tuple (rda_cons (rd_revL (rd_cb cal_list (rda_cons (rd_op o2_ix (rd_var (i := 1)) (rd_var (i := 3))) rda_nil))) rda_nil)) rda_nil))))) rds_next)
      (rds_seq (rds_if (rdt_test (rd_op o2_eq (rd_var (i := 2)) rd_int)) (rds_ret (rd_call0 (E := E0) (rda_cons (rd_var (i := 1)) (rda_cons (rd_var (i := 3)) (rda_cons (rd_op o2_add (rd_op o2_ix (rd_var (i := 1)) (rd_var (i := 3))) (rd_tup (rda_cons (rd_var (i := 6)) rda_nil))) rda_nil))))) rds_next)
      (rds_ret (rd_call0 (E := E0) (rda_cons (rd_var (i := 1)) (rda_cons (rd_var (i := 3)) (rda_cons (rd_call0 (E := E0) (rda_cons (rd_op o2_ix (rd_var (i := 1)) (rd_var (i := 3))) (rda_cons (rd_var (i := 4)) (rda_cons (rd_var (i := 6)) rda_nil)))) rda_nil))))))))))))))))), ?_⟩
  rintro ss n P ⟨ls, rfl, fl, lsl, hn, p⟩
  walk_at "dl"
  have hn' : n + 500 < 1099511627776 := hn
  have hll : (ls.map tupI).length = ls.length := List.length_map ..
  have hsh : ∀ x ∈ ls.map tupI, nx x = true ∧ shortD x = true := fun x hx => by
    obtain ⟨l, hl, rfl⟩ := List.mem_map.mp hx
    refine ⟨nxs_ints, ?_⟩
    have := (lsl l hl).1
    simp only [tupI, shortD, List.length_map, decide_eq_true_eq]
    omega
  have ok : ∀ xs : List D, xs.length ≤ 50 → (∀ x ∈ xs, nx x = true ∧ shortD x = true) → ∀ m, m ≤ n + 200 → P (.tup xs) m := fun xs hl hx m hm => by
    refine p _ _ (nxs_of fun d hd => (hx d hd).1) ?_ hm
    simp only [short2, Bool.and_eq_true, decide_eq_true_eq, List.all_eq_true]
    exact ⟨hl, fun d hd => (hx d hd).2⟩
  have first : ∀ n1, n1 ≤ n + 1 → ds_law_odd [SV.st] n1 fun d n1 => (ls.map tupI).length ≤ 99999 ∧ (ls.map tupI).length ≤ 99999 ∧ ds_law_pick [SV.st, SV.d (D.lst [d, D.lst (ls.map tupI), D.tup (ls.map tupI ++ [D.tup []]), D.tup (ls.map tupI ++ [D.non])])] n1 P := fun n1 hn1 => by
    refine ⟨rfl, lim (by omega), fun o n2 hn2 ho _ => ⟨by omega, by omega, _, .inr rfl, by simp, by simp, lim (by omega), fun d hd n3 hn3 => ?_⟩⟩
    simp only [List.mem_cons, List.not_mem_nil, or_false] at hd
    rcases hd with rfl | rfl | rfl | rfl
    · exact p _ _ ho.1 ho.2.1 (by omega)
    · refine p _ _ (nxs_of fun d hd => (hsh d hd).1) ?_ (by omega)
      simp only [short2, decide_eq_true_eq]
      omega
    · exact ok _ (by rw [List.length_append, hll]; simp only [List.length_cons, List.length_nil]; omega) (fun x hx => (List.mem_append.mp hx).elim (hsh x) fun z => by rw [List.mem_singleton.mp z]; exact ⟨rfl, rfl⟩) _ (by omega)
    · exact ok _ (by rw [List.length_append, hll]; simp only [List.length_cons, List.length_nil]; omega) (fun x hx => (List.mem_append.mp hx).elim (hsh x) fun z => by rw [List.mem_singleton.mp z]; exact ⟨rfl, rfl⟩) _ (by omega)
  refine ⟨8, rfl, by decide, by decide, lim (by omega), fun r n1 r0 r1 hn1 => ?_⟩
  show eqP id (.int r) (.int 0) _
  rw [eqP_int]
  simp only [id]
  by_cases hr0 : r = 0
  · rw [decide_eq_true hr0]
    exact first _ (by omega)
  rw [decide_eq_false hr0]
  by_cases hz : ls = []
  · rw [decide_eq_true (by rw [hll, hz]; rfl)]
    exact first _ (by omega)
  have hpos : 1 ≤ ls.length := Nat.one_le_iff_ne_zero.mpr fun z => hz (List.length_eq_zero_iff.mp z)
  rw [decide_eq_false (by rw [hll]; omega)]
  refine ⟨_, rfl, by rw [hll]; omega, by rw [hll]; omega, lim (by omega), fun sp n2 s0 s1 hn2 => ?_⟩
  obtain ⟨i, rfl⟩ := Int.eq_ofNat_of_zero_le s0
  rw [hll] at s1
  have hi : i < ls.length := by omega
  have ei : (ls.map tupI)[i]? = some (tupI (lotN ls i)) := by rw [List.getElem?_map, (lotN_mem hi).2]; rfl
  have hlot := lsl _ (lotN_mem hi).1
  have nxi : ∀ x ∈ (lotN ls i).map D.int, nx x = true ∧ shortD x = true := fun x hx => by
    obtain ⟨v, _, rfl⟩ := List.mem_map.mp hx
    exact ⟨rfl, rfl⟩
  have put : ∀ d : D, nx d = true ∧ shortD d = true → ∀ m, m ≤ n + 200 → P (.tup ((ls.map tupI).take i ++ [d] ++ (ls.map tupI).drop (i + 1))) m := fun d hd m hm => by
    refine ok _ ?_ (fun x hx => ?_) _ hm
    · rw [List.length_append, List.length_append, List.length_take, List.length_drop, hll]
      simp only [List.length_cons, List.length_nil]
      omega
    · rcases List.mem_append.mp hx with hx | hx
      · rcases List.mem_append.mp hx with hx | hx
        · exact hsh x (List.mem_of_mem_take hx)
        · rw [List.mem_singleton.mp hx]; exact hd
      · exact hsh x (List.mem_of_mem_drop hx)
  show eqP id (.int r) (.int 1) _
  rw [eqP_int]
  simp only [id]
  by_cases hr1 : r = 1
  · rw [decide_eq_true hr1]
    refine ⟨ls.map tupI, .inr rfl, by omega, lim (by omega), fun ys n3 hp hn3 => ?_⟩
    have := hp.length_eq
    exact ok ys (by omega) (fun x hx => hsh x (hp.mem_iff.mp hx)) _ (by omega)
  rw [decide_eq_false hr1]
  show eqP id (.int r) (.int 2) _
  rw [eqP_int]
  simp only [id]
  by_cases hr2 : r = 2
  · rw [decide_eq_true hr2]
    have e1 : cutD (ls.map tupI) none (some (i : Int)) = (ls.map tupI).take i := cut_to
    have e2 : cutD (ls.map tupI) (some (i : Int)) none = (ls.map tupI).drop i := cut_from
    have e3 : ∀ x ∈ cutD (ls.map tupI) (some (i : Int)) (some ((i : Int) + 1)), x ∈ ls.map tupI := fun x hx => cut_mem hx
    have e4 : (cutD (ls.map tupI) (some (i : Int)) (some ((i : Int) + 1))).length ≤ ls.length := by rw [← hll]; exact cut_len
    show _ ∧ _
    rw [e1, e2]
    have t1 := List.length_take_le i (ls.map tupI)
    have t2 : ((ls.map tupI).drop i).length ≤ ls.length := by rw [List.length_drop, hll]; omega
    have t3 : ((ls.map tupI).take i).length ≤ ls.length := by rw [List.length_take, hll]; omega
    refine ⟨by omega, by rw [List.length_append]; omega, ?_⟩
    refine p _ _ (nxs_of fun d hd => ?_) ?_ (by omega)
    · rcases List.mem_append.mp hd with hd | hd
      · rcases List.mem_append.mp hd with hd | hd
        · exact (hsh d (List.mem_of_mem_take hd)).1
        · exact (hsh d (e3 d hd)).1
      · exact (hsh d (List.mem_of_mem_drop hd)).1
    · simp only [short2, Bool.and_eq_true, decide_eq_true_eq, List.all_eq_true]
      refine ⟨?_, fun d hd => ?_⟩
      · rw [List.length_append, List.length_append]
        have t4 : ((ls.map tupI).take i).length + ((ls.map tupI).drop i).length = ls.length := by rw [List.length_take, List.length_drop, hll]; omega
        omega
      · rcases List.mem_append.mp hd with hd | hd
        · rcases List.mem_append.mp hd with hd | hd
          · exact (hsh d (List.mem_of_mem_take hd)).2
          · exact (hsh d (e3 d hd)).2
        · exact (hsh d (List.mem_of_mem_drop hd)).2
  rw [decide_eq_false hr2]
  show eqP id (.int r) (.int 3) _
  rw [eqP_int]
  simp only [id]
  by_cases hr3 : r = 3
  · rw [decide_eq_true hr3]
    refine ⟨ls.map tupI, i, rfl, by omega, by omega, ok _ ?_ (fun x hx => ?_) _ (by omega)⟩
    · rw [List.length_append, List.length_take, List.length_drop, hll]
      omega
    · rcases List.mem_append.mp hx with hx | hx
      · exact hsh x (List.mem_of_mem_take hx)
      · exact hsh x (List.mem_of_mem_drop hx)
  rw [decide_eq_false hr3]
  show eqP id (.int r) (.int 4) _
  rw [eqP_int]
  simp only [id]
  have h0 : 0 < ((lotN ls i).map D.int).length := by rw [List.length_map]; omega
  have e0 : atD ((lotN ls i).map D.int) 0 = some ((lotN ls i).map D.int)[0] := at_nat (j := 0) (List.getElem?_eq_getElem h0)
  have z0 := nxi _ (List.getElem_mem h0)
  generalize ((lotN ls i).map D.int)[0] = q0 at e0 z0
  have hlotD : nx (tupI (lotN ls i)) = true ∧ shortD (tupI (lotN ls i)) = true := hsh _ (List.mem_of_getElem? ei)
  by_cases hr4 : r = 4
  · rw [decide_eq_true hr4]
    refine ⟨_, at_nat ei, ?_⟩
    refine ⟨rfl, lim (by omega), fun o n3 hn3 ho _ => ⟨_, at_nat ei, q0, e0, _, .inr rfl, by simp, by simp, lim (by omega), fun d hd n4 hn4 => ⟨ls.map tupI, i, d, rfl, by omega, by omega, put d ?_ _ (by omega)⟩⟩⟩
    simp only [List.mem_cons, List.not_mem_nil, or_false] at hd
    rcases hd with rfl | rfl | rfl | rfl
    · exact ⟨nxs_ints, by simp only [shortD, List.length_map, decide_eq_true_eq] <;> omega⟩
    · exact ⟨ho.1, ho.2.2⟩
    · exact ⟨rfl, rfl⟩
    · exact z0
  rw [decide_eq_false hr4]
  refine ⟨_, at_nat ei, ?_⟩
  have hln : ((lotN ls i).map D.int).length = (lotN ls i).length := List.length_map ..
  refine ⟨_, rfl, by rw [hln]; omega, by rw [hln]; omega, lim (by omega), fun a n3 a0 a1 hn3 => ?_⟩
  obtain ⟨a, rfl⟩ := Int.eq_ofNat_of_zero_le a0
  rw [hln] at a1
  refine ⟨_, rfl, by rw [hll]; omega, by rw [hll]; omega, lim (by omega), fun b n4 b0 b1 hn4 => ?_⟩
  refine ⟨_, .inr rfl, by simp, by simp, lim (by omega), fun it hit n5 hn5 => ?_⟩
  have hz : nx it = true ∧ shortD it = true := by
    simp only [List.mem_cons, List.not_mem_nil, or_false] at hit
    rcases hit with rfl | rfl | rfl | rfl | rfl | rfl | rfl | rfl | rfl | rfl | rfl | rfl <;> exact ⟨rfl, rfl⟩
  show eqP id (.int r) (.int 5) _
  rw [eqP_int]
  simp only [id]
  have isT : ∀ xs : List D, xs.length ≤ 60 → (∀ x ∈ xs, nx x = true) → nx (.tup xs) = true ∧ shortD (.tup xs) = true := fun xs hl hx => ⟨nxs_of hx, by simp only [shortD, decide_eq_true_eq]; omega⟩
  by_cases hr5 : r = 5
  · rw [decide_eq_true hr5]
    refine ⟨_, at_nat ei, ls.map tupI, i, _, rfl, by omega, by omega, put _ (isT _ (by rw [List.length_reverse, hln]; omega) fun x hx => (nxi x (List.mem_reverse.mp hx)).1) _ (by omega)⟩
  rw [decide_eq_false hr5]
  show eqP id (.int r) (.int 6) _
  rw [eqP_int]
  simp only [id]
  by_cases hr6 : r = 6
  · rw [decide_eq_true hr6]
    refine ⟨_, at_nat ei, ?_⟩
    show _ ∧ _
    refine ⟨by rw [hln]; simp only [List.length_cons, List.length_nil]; omega, ls.map tupI, i, _, rfl, by omega, by omega, put _ (isT _ (by rw [List.length_append, hln]; simp only [List.length_cons, List.length_nil]; omega) fun x hx => ?_) _ (by omega)⟩
    rcases List.mem_append.mp hx with hx | hx
    · exact (nxi x hx).1
    · rw [List.mem_singleton.mp hx]; exact hz.1
  rw [decide_eq_false hr6]
  refine ⟨_, at_nat ei, (lotN ls i).map D.int, a, it, rfl, by rw [hln]; omega, by rw [hln]; omega, ?_⟩
  refine ⟨ls.map tupI, i, _, rfl, by omega, by omega, put _ (isT _ ?_ fun x hx => ?_) _ (by omega)⟩
  · rw [List.length_append, List.length_append, List.length_take, List.length_drop, hln]
    simp only [List.length_cons, List.length_nil]
    omega
  · rcases List.mem_append.mp hx with hx | hx
    · rcases List.mem_append.mp hx with hx | hx
      · exact (nxi x (List.mem_of_mem_take hx)).1
      · rw [List.mem_singleton.mp hx]; exact hz.1
    · exact (nxi x (List.mem_of_mem_drop hx)).1



abbrev s_law_renumbered : Stmt := topS 33
theorem sc_law_renumbered : FnScope ["order", "shape", "pairs_here", "ties_here", "one", "other", "pair", "seat"] ["order", "shape"] (defScope s_law_renumbered) := ⟨rfl, rfl, rfl, by decide +kernel, rfl, by decide +kernel, by decide +kernel⟩
theorem ok_law_renumbered (T : Txt K mg cs tk0) (D : DefAt K mg "_law_renumbered" s_law_renumbered ["order", "shape"]) : Has P w K mg base CX0 1 "_law_renumbered" ["order", "shape"] (sp0 K TT ds_law_renumbered) := by
  obtain ⟨f, fd, F, hm, hk, hb⟩ := D
  refine ⟨f, fd, F.okD sc_law_renumbered (len_law_renumbered) (fun S cdv A outer s H E hr => ?_), hm, hk, hb⟩
  refine ⟨_, _, (pss_cons (ps_setLc (i := 2) (own := [("one", 4), ("other", 5)]) (g := gTup _ 2 (gCons (gName 4) (gCons (gName 5) gNil))) rfl sc_law_renumbered.nd rfl rfl (sw_true rfl rfl rfl (by decide +kernel)) (pi_tup (pe_ix ix_seq (pv 1) pe_int (fun _ _ => rfl))) (blkOk_by (N := ["order", "shape", "pairs_here", "ties_here", "one", "other", "pair", "seat"]) (own := [("one", 4), ("other", 5)]) (sc := defScope s_law_renumbered) (by decide +kernel)) (fun _ _ _ _ _ => (pg_tup rfl (pgs_cons (pg_name (i := 4) sc_law_renumbered.nd rfl (by first | exact Or.inl rfl | exact Or.inr rfl)) (pgs_cons (pg_name (i := 5) sc_law_renumbered.nd rfl (by first | exact Or.inl rfl | exact Or.inr rfl)) pgs_nil)))) (fun _ _ _ _ _ => pts_nil) (fun _ _ _ _ _ => (pe_tup (pa_cons (pe_ix ix_seq (pv 0) (pv 4) (fun _ _ => rfl)) (pa_cons (pe_ix ix_seq (pv 0) (pv 5) (fun _ _ => rfl)) pa_nil)))))
      (pss_cons (ps_set (i := 3) sc_law_renumbered.nd rfl (by first | exact Or.inl rfl | exact Or.inr rfl) (pe_callTy call_tupU (by rfl) T.n_tuple (by decide +kernel) (pa_cons (pe_callB (SCo.cr_sortT hr) (by rfl) T.n_sorted (by decide +kernel) (pa_cons (pe_lc (own := [("pair", 6)]) (g := gName 6) rfl sc_law_renumbered.nd (pi_list (pv 2)) (blkOk_by (N := ["order", "shape", "pairs_here", "ties_here", "one", "other", "pair", "seat"]) (own := [("pair", 6)]) (sc := defScope s_law_renumbered) (by decide +kernel)) (fun _ _ _ _ _ => (pg_name (i := 6) sc_law_renumbered.nd rfl (by first | exact Or.inl rfl | exact Or.inr rfl))) (fun _ _ _ _ _ => pts_nil) (fun _ _ _ _ _ => (pe_tup (pa_cons (pe_callB (SCo.cr_minT hr) (by rfl) T.n_min (by decide +kernel) (pa_cons (pv 6) pa_nil)) (pa_cons (pe_callB (SCo.cr_maxT hr) (by rfl) T.n_max (by decide +kernel) (pa_cons (pv 6) pa_nil)) pa_nil))))) pa_nil)) pa_nil)))
      (pss_one (ps_ret (pe_tup (pa_cons (pv 3) (pa_cons (pe_callTy call_tupU (by rfl) T.n_tuple (by decide +kernel) (pa_cons (pe_lc (own := [("seat", 7)]) (g := gName 7) rfl sc_law_renumbered.nd (pi_tup (pe_ix ix_seq (pv 1) pe_int (fun _ _ => rfl))) (blkOk_by (N := ["order", "shape", "pairs_here", "ties_here", "one", "other", "pair", "seat"]) (own := [("seat", 7)]) (sc := defScope s_law_renumbered) (by decide +kernel)) (fun _ _ _ _ _ => (pg_name (i := 7) sc_law_renumbered.nd rfl (by first | exact Or.inl rfl | exact Or.inr rfl))) (fun _ _ _ _ _ => pts_nil) (fun _ _ _ _ _ => (pe_ix ix_seq (pv 0) (pv 7) (fun _ _ => rfl)))) pa_nil)) pa_nil))))))),
    (rds_seq (rds_set (rd_lc (rdj_of (rdi_tup (rd_op o2_ix (rd_var (i := 1)) rd_int))) (rdg_two (vs := [4, 5]) (by decide) (by decide)) rdt_yes (rd_tup (rda_cons (rd_op o2_ix (rd_var (i := 0)) (rd_var (i := 4))) (rda_cons (rd_op o2_ix (rd_var (i := 0)) (rd_var (i := 5))) rda_nil)))))
      (rds_seq (rds_set (rd_cb cal_tuple (rda_cons (rd_cb cal_sortT (rda_cons (rd_lc (rdj_of (rdi_list (rd_var (i := 2)))) (rdg_name (vs := [6]) (by decide)) rdt_yes (rd_tup (rda_cons (rd_cb cal_pair (rda_cons (rd_var (i := 6)) rda_nil)) (rda_cons (rd_cb cal_pair (rda_cons (rd_var (i := 6)) rda_nil)) rda_nil)))) rda_nil)) rda_nil)))
      (rds_ret (rd_tup (rda_cons (rd_var (i := 3)) (rda_cons (rd_cb cal_tuple (rda_cons (rd_lc (rdj_of (rdi_tup (rd_op o2_ix (rd_var (i := 1)) rd_int))) (rdg_name (vs := [7]) (by decide)) rdt_yes (rd_op o2_ix (rd_var (i := 0)) (rd_var (i := 7)))) rda_nil)) rda_nil)))))), ?_⟩
  rintro ss n P ⟨os, ts, seats, rfl, t, s, ho, p⟩
  walk_at "dl"
  have hl := t.l
  have ol := ho.length_eq
  rw [upTo_len] at ol
  have at' : ∀ k, 0 ≤ k → k ≤ (ts.length : Int) → atD (os.map D.int) k = some (.int (oOf os k)) := fun k k0 k1 => by
    obtain ⟨i, rfl⟩ := Int.eq_ofNat_of_zero_le k0
    refine at_nat ?_
    unfold oOf
    rw [List.getElem?_map, Int.toNat_natCast, List.getElem?_eq_getElem (show i < os.length by omega), List.getD_eq_getElem?_getD, List.getElem?_eq_getElem (show i < os.length by omega)]
    rfl
  refine ⟨_, at_zero, by rw [List.length_map]; omega, compM_map (f := renF os) (fun x hx n2 k q => ?_) ?_⟩
  · obtain ⟨e, he, rfl⟩ := List.mem_map.mp hx
    have b := t.b e he
    refine ⟨_, at' e.1 (by omega) (by omega), _, at' e.2 (by omega) (by omega), ?_⟩
    exact q
  · refine ⟨by rw [List.length_map, List.length_map]; omega, compM_map (f := mmF) (fun x hx n3 k q => ?_) ?_⟩
    · obtain ⟨y, hy, rfl⟩ := List.mem_map.mp hx
      obtain ⟨e, _, rfl⟩ := List.mem_map.mp hy
      exact q
    · have hs := s.l
      refine ⟨ts.map (lotR (oOf os)), mm_ren, hd_ok fun l hl => ?_, _, at_nat (j := 1) rfl, by rw [List.length_map]; omega, compM_map (f := seatF os) (fun x hx n3 k q => ?_) ?_⟩
      · obtain ⟨e, _, rfl⟩ := List.mem_map.mp hl
        unfold lotR
        simp
      · obtain ⟨v, hv, rfl⟩ := List.mem_map.mp hx
        have b := s.b v hv
        exact ⟨_, at' v b.1 b.2, q⟩
      · have e1 : (seats.map D.int).map (seatF os) = (seats.map (oOf os)).map D.int := by rw [List.map_map, List.map_map]; rfl
        rw [e1, renS_pair]
        exact p _ (ren_sort t (ren_of ho))

abbrev s_law_shuffled : Stmt := topS 34
theorem sc_law_shuffled : FnScope ["state", "shape"] ["state", "shape"] (defScope s_law_shuffled) := ⟨rfl, rfl, rfl, by decide +kernel, rfl, by decide +kernel, by decide +kernel⟩
theorem ok_law_shuffled (T : Txt K mg cs tk0) (D : DefAt K mg "_law_shuffled" s_law_shuffled ["state", "shape"]) (c_law_renumbered : Has P w K mg base CX0 1 "_law_renumbered" ["order", "shape"] (sp0 K TT ds_law_renumbered)) (c_law_mixed : Has P w K mg base CX0 2 "_law_mixed" ["state", "several"] (sp0 K TT ds_law_mixed)) : Has P w K mg base CX0 3 "_law_shuffled" ["state", "shape"] (sp0 K TT ds_law_shuffled) := by
  obtain ⟨f, fd, F, hm, hk, hb⟩ := D
  obtain ⟨_, _, c_law_renumbered_ok, c_law_renumbered_m, c_law_renumbered_k, c_law_renumbered_b⟩ := c_law_renumbered
  obtain ⟨_, _, c_law_mixed_ok, c_law_mixed_m, c_law_mixed_k, c_law_mixed_b⟩ := c_law_mixed
  refine ⟨f, fd, F.okD sc_law_shuffled (len_law_shuffled) (fun S cdv A outer s H E hr => ?_), hm, hk, hb⟩
  refine ⟨_, _, (pss_one (ps_ret (pe_call c_law_renumbered_ok (hr.mono (by decide)) rfl c_law_renumbered_m c_law_renumbered_k c_law_renumbered_b .nil pass0 (pa_cons (pe_call c_law_mixed_ok (hr.mono (by decide)) rfl c_law_mixed_m c_law_mixed_k c_law_mixed_b .nil pass0 (pa_cons (pv 0) (pa_cons (RZ.pe_listRng (by rfl) T.n_list (by rfl) T.n_range (pa_cons (pe_op op_addU (pe_callB call_lenU (by rfl) T.n_len (by decide +kernel) (pa_cons (pe_ix ix_seq (pv 1) pe_int (fun _ _ => rfl)) pa_nil)) pe_int) pa_nil)) pa_nil))) (pa_cons (pv 1) pa_nil))))),
    (rds_ret (rd_call0 (E := E0) (rda_cons (rd_call0 (E := E0) (rda_st (i := 0) (rda_cons (rd_listRng (rda_cons (rd_op o2_add (rd_cb cal_len (rda_cons (rd_op o2_ix (rd_var (i := 1)) rd_int) rda_nil)) rd_int) rda_nil)) rda_nil))) (rda_cons (rd_var (i := 1)) rda_nil)))), ?_⟩
  rintro ss n P ⟨ts, seats, rfl, t, s, hn, p⟩
  walk_at "dl"
  refine ⟨_, at_zero, (ts.length : Int) + 1, ?_⟩
  have hn' : n + 300 < 1099511627776 := hn
  have hl := t.l
  have e1 : (ts.map pairI).length = ts.length := List.length_map ..
  rw [e1]
  refine ⟨rfl, by omega, by omega, ?_⟩
  have e2 : natsD ((ts.length : Int) + 1).toNat = (upTo ts.length).map D.int := by
    rw [show ((ts.length : Int) + 1).toNat = ts.length + 1 by omega]
    exact natsD_up
  rw [e2]
  have e3 : (upTo ts.length).length = ts.length + 1 := upTo_len
  refine ⟨_, .inl rfl, by rw [List.length_map]; omega, lim (by omega), fun ys n1 hp hn1 => ?_⟩
  rw [List.length_map, e3] at hn1
  obtain ⟨os, rfl⟩ : ∃ os : List Int, ys = os.map D.int := ⟨intsOf ys, all_ints fun d hd => by
    obtain ⟨v, _, rfl⟩ := List.mem_map.mp (hp.mem_iff.mp hd)
    exact ⟨v, rfl⟩⟩
  have hp2 : os.Perm (upTo ts.length) := by
    have := hp.map (fun d => match d with | .int i => i | _ => 0)
    rw [List.map_map, List.map_map] at this
    simpa [Function.comp_def] using this
  show ds_law_renumbered _ _ _
  refine ⟨os, ts, seats, rfl, t, s, hp2, fun us hu => ?_⟩
  have r := ren_of hp2
  exact p us _ n1 (ren_ties t r hu) (ren_seats t r hu s) hu.len (List.length_map ..) (fun m ls d => ren_told d r hu) (by omega)

abbrev s_law_shape : Stmt := topS 35
theorem sc_law_shape : FnScope ["state", "many"] ["state", "many"] (defScope s_law_shape) := ⟨rfl, rfl, rfl, by decide +kernel, rfl, by decide +kernel, by decide +kernel⟩
theorem ok_law_shape (T : Txt K mg cs tk0) (D : DefAt K mg "_law_shape" s_law_shape ["state", "many"]) (c_law_shuffled : Has P w K mg base CX0 3 "_law_shuffled" ["state", "shape"] (sp0 K TT ds_law_shuffled)) (c_law_normal : Has P w K mg base CX0 1 "_law_normal" ["many", "some"] (sp0 K TT ds_law_normal)) (c_law_some_partings : Has P w K mg base CX0 3 "_law_some_partings" ["state", "many"] (sp0 K TT ds_law_some_partings)) : Has P w K mg base CX0 4 "_law_shape" ["state", "many"] (sp0 K TT ds_law_shape) := by
  obtain ⟨f, fd, F, hm, hk, hb⟩ := D
  obtain ⟨_, _, c_law_shuffled_ok, c_law_shuffled_m, c_law_shuffled_k, c_law_shuffled_b⟩ := c_law_shuffled
  obtain ⟨_, _, c_law_normal_ok, c_law_normal_m, c_law_normal_k, c_law_normal_b⟩ := c_law_normal
  obtain ⟨_, _, c_law_some_partings_ok, c_law_some_partings_m, c_law_some_partings_k, c_law_some_partings_b⟩ := c_law_some_partings
  refine ⟨f, fd, F.okD sc_law_shape (len_law_shape) (fun S cdv A outer s H E hr => ?_), hm, hk, hb⟩
  refine ⟨_, _, (pss_one (ps_ret (pe_call c_law_shuffled_ok (hr.mono (by decide)) rfl c_law_shuffled_m c_law_shuffled_k c_law_shuffled_b .nil pass0 (pa_cons (pv 0) (pa_cons (pe_call c_law_normal_ok (hr.mono (by decide)) rfl c_law_normal_m c_law_normal_k c_law_normal_b .nil pass0 (pa_cons (pv 1) (pa_cons (pe_call c_law_some_partings_ok (hr.mono (by decide)) rfl c_law_some_partings_m c_law_some_partings_k c_law_some_partings_b .nil pass0 (pa_cons (pv 0) (pa_cons (pv 1) pa_nil))) pa_nil))) pa_nil))))),
    (rds_ret (rd_call0 (E := E0) (rda_st (i := 0) (rda_cons (rd_call0 (E := E0) (rda_cons (rd_var (i := 1)) (rda_cons (rd_call0 (E := E0) (rda_st (i := 0) (rda_cons (rd_var (i := 1)) rda_nil))) rda_nil))) rda_nil)))), ?_⟩
  rintro ss n P ⟨many, rfl, h1, h2, hn, p⟩
  have hn' : n + 1000 < 1099511627776 := hn
  walk_at "dl"
  show ds_law_some_partings [.st, .d (.int many)] n _
  refine ⟨many, rfl, h1, h2, lim (by omega), fun ls n1 f hr h3 => ?_⟩
  show ds_law_normal [.d (.int many), .d (.tup (ls.map tupI))] n1 _
  refine ⟨many, ls, rfl, h2, f, fun ts nt => ?_⟩
  show ds_law_shuffled [.st, .d (.tup [.tup (ts.map pairI), tupI (seatsN ls many)])] n1 _
  refine ⟨ts, seatsN ls many, rfl, norm_ties f nt, norm_seats f h1 h2 nt, lim (by omega), fun us seats' n2 t' s' l1 l2 tl hn2 => ?_⟩
  exact p us seats' ls n2 t' s' (by rw [l2]; unfold seatsN; rw [List.length_map, List.length_range]) (tl many ls (norm_told f h1 h2 nt)) hr (by omega)

abbrev s_Tree_eq : Stmt := inClass (topS 13) 1
theorem sc_Tree_eq : FnScope ["self", "other"] ["self", "other"] (defScope s_Tree_eq) := ⟨rfl, rfl, rfl, by decide +kernel, rfl, by decide +kernel, by decide +kernel⟩
theorem ok_Tree_eq (T : Txt K mg cs tk0) (D : EqAt K "Tree.__eq__" cs.Tree s_Tree_eq) : SCo.HasEq P w K mg base 1 cs.Tree (sp0 K TT (ds_Tree_eq cs)) := by
  obtain ⟨f, fd, F, e9, hb9⟩ := D
  refine ⟨f, fd, F.okD sc_Tree_eq (len_Tree_eq cs) (fun S cdv A outer s H E hr => ?_), hb9, e9.e, e9.n, e9.f, e9.m⟩
  refine ⟨_, _, (pss_one (ps_ret (pe_and (pe_callB call_isD (by rfl) T.n_isinstance (by decide +kernel) (pa_cons (pv 1) (pa_cons (pe_glob (v := .ref cs.Tree) rfl T.g_Tree rfl) pa_nil))) (pe_and (pe_cmpR (op_eqU hr.units) (pe_fld (pv 0) rfl) (pe_fld (pv 1) rfl) (nomark _)) (pe_one (pe_cmpR (op_eqU hr.units) (pe_fld (pv 0) rfl) (pe_fld (pv 1) rfl) (nomark _))))))),
    (rds_ret (rd_andV (rd_is (.own _) (rd_var (i := 1))) (rd_andV (rd_op o2_eq (rd_fld (rd_var (i := 0))) (rd_fld (rd_var (i := 1)))) (rd_op o2_eq (rd_fld (rd_var (i := 0))) (rd_fld (rd_var (i := 1))))))), ?_⟩
  rintro ss n P ⟨ts, seats, d, rfl, h⟩
  walk_at "dl"
  rcases h with ⟨us, sts, rfl, p⟩ | ⟨xd, ni, p⟩
  · refine ⟨trivial, true, T.i_Tree, T.na_Tree_ties, _, rfl, T.na_Tree_ties, _, rfl, eqP_ties ?_⟩
    simp only [id]
    cases e : decide (ts = us) with
    | false => rw [e] at p; exact p
    | true =>
      rw [e, Bool.true_and] at p
      exact ⟨T.na_Tree_seats, _, rfl, T.na_Tree_seats, _, rfl, eqP_ints p⟩
  · exact ⟨bare_of xd, false, kit_no T.no_Tree xd ni, p⟩

abbrev s_law_joins : Stmt := topS 29
theorem sc_law_joins : FnScope ["customs_here", "some", "found", "lap", "one", "other"] ["customs_here", "some"] (defScope s_law_joins) := ⟨rfl, rfl, rfl, by decide +kernel, rfl, by decide +kernel, by decide +kernel⟩
theorem ok_law_joins (T : Txt K mg cs tk0) (D : DefAt K mg "_law_joins" s_law_joins ["customs_here", "some"]) : Has P w K mg base CX0 1 "_law_joins" ["customs_here", "some"] (sp0 K TT ds_law_joins) := by
  obtain ⟨f, fd, F, hm, hk, hb⟩ := D
  refine ⟨f, fd, F.okD sc_law_joins (len_law_joins) (fun S cdv A outer s H E hr => ?_), hm, hk, hb⟩
  refine ⟨_, _, (pss_cons (ps_set (i := 2) sc_law_joins.nd rfl (by first | exact Or.inl rfl | exact Or.inr rfl) (pe_slice sl_U (pv 0) po_none (po_some pe_int)))
      (pss_cons (ps_for PassesOwn.never rfl (pi_list (pv 0)) (pg_name (i := 3) sc_law_joins.nd rfl (by first | exact Or.inl rfl | exact Or.inr rfl)) (pss_one (ps_for PassesOwn.never rfl (pi_tup (pv 1)) (pg_tup rfl (pgs_cons (pg_name (i := 4) sc_law_joins.nd rfl (by first | exact Or.inl rfl | exact Or.inr rfl)) (pgs_cons (pg_name (i := 5) sc_law_joins.nd rfl (by first | exact Or.inl rfl | exact Or.inr rfl)) pgs_nil))) (pss_one (ps_if (pt_cmpR (op_neU hr.units) (pe_cmpR (op_inD (hu65_of hr)) (pv 4) (pv 2) (by with_unfolding_all rfl)) (pe_cmpR (op_inD (hu65_of hr)) (pv 5) (pv 2) (by with_unfolding_all rfl)) (nomark _)) (pss_one (ps_set (i := 2) sc_law_joins.nd rfl (by first | exact Or.inl rfl | exact Or.inr rfl) (pe_op SCo.op_catL (pv 2) (pe_lst (pa_cons (pe_ifExp (pt_cmpR (op_inD (hu65_of hr)) (pv 4) (pv 2) (by with_unfolding_all rfl)) (pv 5) (pv 4)) pa_nil))))) pss_nil)))))
      (pss_one (ps_ret (pe_cmpR (op_eqU hr.units) (pe_callB call_lenU (by rfl) T.n_len (by decide +kernel) (pa_cons (pv 2) pa_nil)) (pe_callB call_lenU (by rfl) T.n_len (by decide +kernel) (pa_cons (pv 0) pa_nil)) (nomark _)))))),
    (rds_seq (rds_set (rd_sl (rd_var (i := 0)) rdo_none (rdo_some rd_int)))
      (rds_seq (rds_for (rdi_list (rd_var (i := 0))) (rdg_name (vs := [3]) (by decide)) (rds_for (rdi_tup (rd_var (i := 1))) (rdg_two (vs := [4, 5]) (by decide) (by decide)) (rds_if (rdt_test (rd_op o2_ne (rd_op o2_inLI (rd_var (i := 4)) (rd_var (i := 2))) (rd_op o2_inLI (rd_var (i := 5)) (rd_var (i := 2))))) (rds_set (rd_op o2_addL (rd_var (i := 2)) (rd_lst (rda_cons (rd_if (rdt_test (rd_op o2_inLI (rd_var (i := 4)) (rd_var (i := 2)))) (rd_var (i := 5)) (rd_var (i := 4))) rda_nil)))) rds_next)))
      (rds_ret (rd_op o2_eq (rd_cb cal_len (rda_cons (rd_var (i := 2)) rda_nil)) (rd_cb cal_len (rda_cons (rd_var (i := 0)) rda_nil)))))), ?_⟩
  rintro ss n P ⟨ts, rfl, h21, hb, p⟩
  walk_at "dl"
  have e0 : cutD ((upTo ts.length).map D.int) none (some 1) = ([0] : List Int).map D.int := by
    rw [show (1 : Int) = ((1 : Nat) : Int) from rfl, cut_to]
    unfold upTo
    rw [List.range_succ_eq_map]
    rfl
  rw [e0]
  refine ⟨fun i ρ n' => n' = n ∧ ∃ (F : List Int) (u3 u4 u5 : SV), ρ = [.d (.lst ((upTo ts.length).map D.int)), .d (.tup (ts.map pairI)), .d (.lst (F.map D.int)), u3, u4, u5] ∧ JoinI ts F ∧ (ClJ ts F ∨ i + 1 ≤ F.length), ⟨rfl, [0], _, _, _, rfl, joinI_start, .inr (by simp)⟩, ?_, ?_⟩
  · rintro i x ρ n' hx ⟨rfl, F0, u3, u4, u5, rfl, b0, h0⟩
    clear hx
    walk_at "dl"
    refine ⟨fun j ρ n2 => n2 = n' ∧ ∃ (F : List Int) (u4 u5 : SV), ρ = [.d (.lst ((upTo ts.length).map D.int)), .d (.tup (ts.map pairI)), .d (.lst (F.map D.int)), .d x, u4, u5] ∧ LapJ ts F0 F j, ⟨rfl, F0, _, _, rfl, lapJ_start b0⟩, ?_, ?_⟩
    · rintro j y ρ n2 hy ⟨rfl, F, u4, u5, rfl, lap⟩
      rw [List.getElem?_map] at hy
      obtain ⟨q, hq, rfl⟩ := Option.map_eq_some_iff.mp hy
      clear hy
      have hm : q ∈ ts := List.mem_of_getElem? hq
      obtain ⟨a, b⟩ := q
      rw [show pairI (a, b) = D.tup [.int a, .int b] from rfl]
      walk_at "dl"
      have fl := joinI_len lap.b
      refine ⟨_, rfl, _, rfl, _, rfl, _, rfl, ?_⟩
      rw [any_in, any_in]
      by_cases ha : a ∈ F <;> by_cases hb' : b ∈ F
      · rw [decide_eq_true ha, decide_eq_true hb']
        exact ⟨F, _, _, rfl, lapJ_keep lap hq ⟨fun _ => hb', fun _ => ha⟩⟩
      · rw [decide_eq_true ha, decide_eq_false hb']
        refine ⟨_, rfl, _, rfl, ?_⟩
        rw [any_in, decide_eq_true ha]
        exact ⟨by rw [List.length_map]; omega, F ++ [b], _, _, by rw [List.map_append]; rfl, lapJ_add hb lap hm (.inr rfl) ha hb'⟩
      · rw [decide_eq_false ha, decide_eq_true hb']
        refine ⟨_, rfl, _, rfl, ?_⟩
        rw [any_in, decide_eq_false ha]
        exact ⟨by rw [List.length_map]; omega, F ++ [a], _, _, by rw [List.map_append]; rfl, lapJ_add hb lap hm (.inl rfl) hb' ha⟩
      · rw [decide_eq_false ha, decide_eq_false hb']
        exact ⟨F, _, _, rfl, lapJ_keep lap hq ⟨fun z => absurd z ha, fun z => absurd z hb'⟩⟩
    · rintro ρ n2 ⟨rfl, F, u4, u5, rfl, lap⟩
      rw [List.length_map] at lap
      exact ⟨rfl, F, _, _, _, rfl, lap.b, lapJ_end lap h0⟩
  · rintro ρ n' ⟨rfl, F, u3, u4, u5, rfl, b, h⟩
    rw [List.length_map, upTo_len] at h
    walk_at "dl"
    rw [List.length_map, List.length_map, upTo_len]
    rw [join_len hb b h] at p
    rw [show decide ((F.length : Int) = ((ts.length + 1 : Nat) : Int)) = decide (F.length = ts.length + 1) from decide_eq_decide.mpr (by omega)]
    exact p

abbrev s_law_are_ties : Stmt := topS 38
theorem sc_law_are_ties : FnScope ["thing", "pair", "one", "other", "item"] ["thing"] (defScope s_law_are_ties) := ⟨rfl, rfl, rfl, by decide +kernel, rfl, by decide +kernel, by decide +kernel⟩
theorem ok_law_are_ties (T : Txt K mg cs tk0) (D : DefAt K mg "_law_are_ties" s_law_are_ties ["thing"]) (c_law_is_below : Has P w K mg base CX0 2 "_law_is_below" ["item", "size_here"] (sp0 K TT ds_law_is_below)) (c_law_joins : Has P w K mg base CX0 1 "_law_joins" ["customs_here", "some"] (sp0 K TT ds_law_joins)) : Has P w K mg base CX0 3 "_law_are_ties" ["thing"] (sp0 K TT ds_law_are_ties) := by
  obtain ⟨f, fd, F, hm, hk, hb⟩ := D
  obtain ⟨_, _, c_law_is_below_ok, c_law_is_below_m, c_law_is_below_k, c_law_is_below_b⟩ := c_law_is_below
  obtain ⟨_, _, c_law_joins_ok, c_law_joins_m, c_law_joins_k, c_law_joins_b⟩ := c_law_joins
  refine ⟨f, fd, F.okD sc_law_are_ties (len_law_are_ties) (fun S cdv A outer s H E hr => ?_), hm, hk, hb⟩
  refine ⟨_, _, (pss_cons (ps_if (PW.pt (pw_or (pt_not (pt_val (pe_callB call_isD (by rfl) T.n_isinstance (by decide +kernel) (pa_cons (pv 0) (pa_cons (pe_bltn rfl T.n_tuple (by decide +kernel) (v := .ty "tuple") rfl) pa_nil))))) (pw_or1 (pt_cmpR op_gt (pe_callB call_lenU (by rfl) T.n_len (by decide +kernel) (pa_cons (pv 0) pa_nil)) pe_int (nomark _))))) (pss_one (ps_ret pe_bl)) pss_nil)
      (pss_cons (ps_for PassesOwn.never rfl (pi_tup (pv 0)) (pg_name (i := 1) sc_law_are_ties.nd rfl (by first | exact Or.inl rfl | exact Or.inr rfl)) (pss_cons (ps_if (PW.pt (pw_or (pt_not (pt_val (pe_callB call_isD (by rfl) T.n_isinstance (by decide +kernel) (pa_cons (pv 1) (pa_cons (pe_bltn rfl T.n_tuple (by decide +kernel) (v := .ty "tuple") rfl) pa_nil))))) (pw_or1 (pt_cmpR (op_neU hr.units) (pe_callB call_lenU (by rfl) T.n_len (by decide +kernel) (pa_cons (pv 1) pa_nil)) pe_int (nomark _))))) (pss_one (ps_ret pe_bl)) pss_nil)
      (pss_one (ps_if (PW.pt (pw_or (pt_cmpR (op_neNil hr.units) (pe_lc (own := [("item", 4)]) (g := gName 4) rfl sc_law_are_ties.nd (pi_tup (pv 1)) (blkOk_by (N := ["thing", "pair", "one", "other", "item"]) (own := [("item", 4)]) (sc := defScope s_law_are_ties) (by decide +kernel)) (fun _ _ _ _ _ => (pg_name (i := 4) sc_law_are_ties.nd rfl (by first | exact Or.inl rfl | exact Or.inr rfl))) (fun _ _ _ _ _ => (pts_one (pt_not (pt_val (pe_call c_law_is_below_ok (hr.mono (by decide)) rfl c_law_is_below_m c_law_is_below_k c_law_is_below_b .nil pass0 (pa_cons (pv 4) (pa_cons (pe_op op_addU (pe_callB call_lenU (by rfl) T.n_len (by decide +kernel) (pa_cons (pv 0) pa_nil)) pe_int) pa_nil))))))) (fun _ _ _ _ _ => pe_int)) (pe_lst pa_nil) (nomark _)) (pw_or1 (pt_cmpR op_ge (pe_ix ix_seq (pv 1) pe_int (fun _ _ => rfl)) (pe_ix ix_seq (pv 1) pe_int (fun _ _ => rfl)) (nomark _))))) (pss_one (ps_ret pe_bl)) pss_nil))))
      (pss_cons (ps_if (pt_cmpR (op_neNil hr.units) (pe_lc (own := [("one", 2), ("other", 3)]) (g := gTup _ 2 (gCons (gName 2) (gCons (gName 3) gNil))) rfl sc_law_are_ties.nd (RZ.pi_zipA (by rfl) T.n_zip (pa_cons (pv 0) (pa_cons (pe_slice sl_U (pv 0) (po_some pe_int) po_none) pa_nil))) (blkOk_by (N := ["thing", "pair", "one", "other", "item"]) (own := [("one", 2), ("other", 3)]) (sc := defScope s_law_are_ties) (by decide +kernel)) (fun _ _ _ _ _ => (pg_tup rfl (pgs_cons (pg_name (i := 2) sc_law_are_ties.nd rfl (by first | exact Or.inl rfl | exact Or.inr rfl)) (pgs_cons (pg_name (i := 3) sc_law_are_ties.nd rfl (by first | exact Or.inl rfl | exact Or.inr rfl)) pgs_nil)))) (fun _ _ _ _ _ => (pts_one (pt_cmpR (SCo.op_geU hr.units0) (pv 2) (pv 3) (nomark _)))) (fun _ _ _ _ _ => pe_int)) (pe_lst pa_nil) (nomark _)) (pss_one (ps_ret pe_bl)) pss_nil)
      (pss_one (ps_ret (pe_call c_law_joins_ok (hr.mono (by decide)) rfl c_law_joins_m c_law_joins_k c_law_joins_b .nil pass0 (pa_cons (RZ.pe_listRng (by rfl) T.n_list (by rfl) T.n_range (pa_cons (pe_op op_addU (pe_callB call_lenU (by rfl) T.n_len (by decide +kernel) (pa_cons (pv 0) pa_nil)) pe_int) pa_nil)) (pa_cons (pv 0) pa_nil)))))))),
    (rds_seq (rds_if (rdt_or (rdt_not (rdt_B (rd_isT (by decide) (rd_var (i := 0))))) (rdt_test (rd_op o2_cmp (rd_cb cal_len (rda_cons (rd_var (i := 0)) rda_nil)) rd_int))) (rds_ret rd_bl) rds_next)
      (rds_seq (rds_for (rdi_tup (rd_var (i := 0))) (rdg_name (vs := [1]) (by decide)) (rds_seq (rds_if (rdt_or (rdt_not (rdt_B (rd_isT (by decide) (rd_var (i := 1))))) (rdt_test (rd_op o2_ne (rd_cb cal_len (rda_cons (rd_var (i := 1)) rda_nil)) rd_int))) (rds_ret rd_bl) rds_next)
      (rds_if (rdt_or (rdt_test (rd_op o2_neNil (rd_lc (rdj_of (rdi_tup (rd_var (i := 1)))) (rdg_name (vs := [4]) (by decide)) (rdt_not (rdt_B (rd_call0 (E := E0) (rda_cons (rd_var (i := 4)) (rda_cons (rd_op o2_add (rd_cb cal_len (rda_cons (rd_var (i := 0)) rda_nil)) rd_int) rda_nil))))) rd_int) (rd_lst rda_nil))) (rdt_test (rd_op o2_cmp (rd_op o2_ix (rd_var (i := 1)) rd_int) (rd_op o2_ix (rd_var (i := 1)) rd_int)))) (rds_ret rd_bl) rds_next)))
      (rds_seq (rds_if (rdt_test (rd_op o2_neNil (rd_lc (rdj_of (rdi_zip (rda_cons (rd_var (i := 0)) (rda_cons (rd_sl (rd_var (i := 0)) (rdo_some rd_int) rdo_none) rda_nil)))) (rdg_two (vs := [2, 3]) (by decide) (by decide)) (rdt_test (rd_op o2_geU (rd_var (i := 2)) (rd_var (i := 3)))) rd_int) (rd_lst rda_nil))) (rds_ret rd_bl) rds_next)
      (rds_ret (rd_call0 (E := E0) (rda_cons (rd_listRng (rda_cons (rd_op o2_add (rd_cb cal_len (rda_cons (rd_var (i := 0)) rda_nil)) rd_int) rda_nil)) (rda_cons (rd_var (i := 0)) rda_nil))))))), ?_⟩
  rintro ss n P ⟨d, rfl, xd, sd, p⟩
  walk_at "dl"
  refine ⟨bare_of xd, ?_⟩
  cases d with
  | tup xs =>
    have hx : nxs xs = true := xd
    simp only [short2, Bool.and_eq_true, decide_eq_true_eq, List.all_eq_true] at sd
    have eB : tiesB (.tup xs) = (decide (xs.length ≤ 21) && (xs.all (tieB xs.length) && (risL (xs.map intsD) && connB (xs.map pairD)))) := rfl
    walk_at "dl"
    by_cases h21 : xs.length ≤ 21
    · rw [decide_eq_false (by omega)]
      have bad : ∀ x ∈ xs, tieB xs.length x = false → P (.bl false) n := fun x hm hb => by
        have ha : xs.all (tieB xs.length) = false := by
          cases h : xs.all (tieB xs.length) with
          | false => rfl
          | true =>
            rw [List.all_eq_true.mp h x hm] at hb
            cases hb
        rw [eB, ha] at p
        simpa using p
      refine ⟨fun i ρ n' => n' = n ∧ ∃ (u1 u2 u3 u4 : SV), ρ = [.d (.tup xs), u1, u2, u3, u4] ∧ (xs.take i).all (tieB xs.length) = true, ⟨rfl, _, _, _, _, rfl, by simp⟩, ?_, ?_⟩
      · rintro i x ρ n' hx2 ⟨rfl, u1, u2, u3, u4, rfl, hall⟩
        have hm : x ∈ xs := List.mem_of_getElem? hx2
        have nxt : tieB xs.length x = true → (xs.take (i + 1)).all (tieB xs.length) = true := fun h => by
          rw [List.take_add_one, hx2, List.all_append, hall]
          simp [h]
        walk_at "dl"
        refine ⟨bare_of (nxs_mem hx hm), ?_⟩
        cases x with
        | tup ys =>
          walk_at "dl"
          by_cases hl : ys.length = 2
          · rw [decide_eq_true (by omega)]
            obtain ⟨a, b, rfl⟩ : ∃ a b, ys = [a, b] := (match ys, hl with | [a, b], _ => ⟨a, b, rfl⟩)
            refine ⟨by simp, compM_filter (f := fun y => if (!betw 0 (xs.length : Int) y) then some (.int 1) else none) (fun y hy n2 k q => ?_) ?_⟩
            · refine ⟨y, _, rfl, bare_of (nxs_mem (show nxs [a, b] = true from nxs_mem hx hm) hy), ?_⟩
              rw [show ((xs.length : Int) + 1 - 1) = xs.length by omega]
              cases e : betw 0 (xs.length : Int) y <;> simp only [e] at q ⊢ <;> simpa using q
            · have e9 : ([a, b].filterMap fun y => if (!betw 0 (xs.length : Int) y) then some (D.int 1) else none) = ones (fun y => !betw 0 (xs.length : Int) y) [a, b] := rfl
              rw [e9, ones_nil]
              have e8 : ([a, b].all fun x => !!betw 0 (xs.length : Int) x) = (betw 0 (xs.length : Int) a && betw 0 (xs.length : Int) b) := by simp
              rw [e8]
              cases h : tieB xs.length (.tup [a, b]) with
              | true =>
                obtain ⟨e, he, b0, b1, b2⟩ := tieB_pair h
                obtain ⟨rfl, rfl⟩ : a = .int e.1 ∧ b = .int e.2 := by
                  have z : [a, b] = [.int e.1, .int e.2] := D.tup.inj he
                  simpa using z
                have c1 : betw 0 (xs.length : Int) (.int e.1) = true := by simp only [betw, Bool.and_eq_true, decide_eq_true_eq]; omega
                have c2 : betw 0 (xs.length : Int) (.int e.2) = true := by simp only [betw, Bool.and_eq_true, decide_eq_true_eq]; omega
                rw [c1, c2]
                refine ⟨_, at_zero, _, at_nat (j := 1) rfl, ?_⟩
                show (match decide (e.2 ≤ e.1) with | true => P (.bl false) n' | false => _ : Prop)
                rw [decide_eq_false (by omega)]
                exact ⟨rfl, _, _, _, _, rfl, nxt h⟩
              | false =>
                have pf := bad _ hm h
                cases c1 : betw 0 (xs.length : Int) a with
                | false => exact pf
                | true =>
                  cases c2 : betw 0 (xs.length : Int) b with
                  | false => exact pf
                  | true =>
                    obtain ⟨va, rfl, a0, a1⟩ := betw_ex c1
                    obtain ⟨vb, rfl, b0, b1⟩ := betw_ex c2
                    refine ⟨_, at_zero, _, at_nat (j := 1) rfl, ?_⟩
                    show (match decide (vb ≤ va) with | true => P (.bl false) n' | false => _ : Prop)
                    by_cases hv : vb ≤ va
                    · rw [decide_eq_true hv]
                      exact pf
                    · have z := tieB_is (n := xs.length) (e := (va, vb)) a0 (by dsimp only; omega) b1
                      rw [show D.tup [.int va, .int vb] = pairI (va, vb) from rfl, z] at h
                      cases h
          · rw [decide_eq_false (by omega)]
            refine bad _ hm ?_
            cases h : tieB xs.length (.tup ys) with
            | false => rfl
            | true =>
              obtain ⟨e, he, _⟩ := tieB_pair h
              have z : ys = [.int e.1, .int e.2] := D.tup.inj he
              rw [z] at hl
              exact absurd rfl hl
        | _ => exact bad _ hm rfl
      · rintro ρ n' ⟨rfl, u1, u2, u3, u4, rfl, hall⟩
        rw [List.take_length] at hall
        obtain ⟨ts, e, bs⟩ := pairs_of hall
        have hl : xs.length = ts.length := by rw [e, List.length_map]
        rw [hl] at h21 bs
        subst e
        rw [tiesB_pairs h21 bs] at p
        clear eB bad
        walk_at "dl"
        have em : ts.map pairI = (ts.map fun e => [e.1, e.2]).map tupI := by rw [List.map_map]; rfl
        show _ ∧ _
        rw [show zipD (ts.map pairI) (cutD (ts.map pairI) (some 1) none) = ((ts.map fun e => [e.1, e.2]).zip ((ts.map fun e => [e.1, e.2]).drop 1)).map fun p => .tup [tupI p.1, tupI p.2] by rw [em, cut_from_one, ← List.map_drop, zipT_map]]
        refine ⟨by simp; omega, compM_filter (f := fun d => if fallL d then some (.int 1) else none) (fun x hx n2 k q => ?_) ?_⟩
        · obtain ⟨⟨a, b⟩, _, rfl⟩ := List.mem_map.mp hx
          refine ⟨a, rfl, b, rfl, ?_⟩
          have q' : k (if (!SCo.ltI (intsOf (a.map D.int)) (intsOf (b.map D.int))) then some (.int 1) else none) n2 := q
          rw [intsOf_map, intsOf_map] at q'
          cases e : SCo.ltI a b <;> simp only [e] at q' ⊢ <;> simpa using q'
        · have e9 : (((ts.map fun e => [e.1, e.2]).zip ((ts.map fun e => [e.1, e.2]).drop 1)).map fun p => D.tup [tupI p.1, tupI p.2]).filterMap (fun d => if fallL d then some (D.int 1) else none) = ones fallL (((ts.map fun e => [e.1, e.2]).zip ((ts.map fun e => [e.1, e.2]).drop 1)).map fun p => D.tup [tupI p.1, tupI p.2]) := rfl
          rw [e9, ones_nil, fallL_all]
          cases er : risL (ts.map fun e => [e.1, e.2]) with
          | false =>
            rw [er] at p
            exact p
          | true =>
            rw [er, Bool.true_and] at p
            have pl : (ts.map pairI).length = ts.length := List.length_map ..
            refine ⟨_, rfl, by omega, by omega, ?_⟩
            rw [pl, show ((ts.length : Int) + 1).toNat = ts.length + 1 by omega, natsD_up]
            exact ⟨ts, rfl, h21, bs, p⟩
    · rw [decide_eq_true (by omega)]
      rw [eB, decide_eq_false h21] at p
      exact p
  | _ => exact p

abbrev s_law_are_seats : Stmt := topS 39
theorem sc_law_are_seats : FnScope ["ties_here", "thing", "lost", "here", "seat", "pair"] ["ties_here", "thing"] (defScope s_law_are_seats) := ⟨rfl, rfl, rfl, by decide +kernel, rfl, by decide +kernel, by decide +kernel⟩
theorem ok_law_are_seats (T : Txt K mg cs tk0) (D : DefAt K mg "_law_are_seats" s_law_are_seats ["ties_here", "thing"]) (c_law_is_below : Has P w K mg base CX0 2 "_law_is_below" ["item", "size_here"] (sp0 K TT ds_law_is_below)) : Has P w K mg base CX0 3 "_law_are_seats" ["ties_here", "thing"] (sp0 K TT ds_law_are_seats) := by
  obtain ⟨f, fd, F, hm, hk, hb⟩ := D
  obtain ⟨_, _, c_law_is_below_ok, c_law_is_below_m, c_law_is_below_k, c_law_is_below_b⟩ := c_law_is_below
  refine ⟨f, fd, F.okD sc_law_are_seats (len_law_are_seats) (fun S cdv A outer s H E hr => ?_), hm, hk, hb⟩
  refine ⟨_, _, (pss_cons (ps_if (PW.pt (pw_or (pt_not (pt_val (pe_callB call_isD (by rfl) T.n_isinstance (by decide +kernel) (pa_cons (pv 1) (pa_cons (pe_bltn rfl T.n_tuple (by decide +kernel) (v := .ty "tuple") rfl) pa_nil))))) (pw_or (pt_cmpR (op_eqU hr.units) (pe_callB call_lenU (by rfl) T.n_len (by decide +kernel) (pa_cons (pv 1) pa_nil)) pe_int (nomark _)) (pw_or1 (pt_cmpR op_gt (pe_callB call_lenU (by rfl) T.n_len (by decide +kernel) (pa_cons (pv 1) pa_nil)) pe_int (nomark _)))))) (pss_one (ps_ret pe_bl)) pss_nil)
      (pss_cons (ps_if (pt_cmpR (op_neNil hr.units) (pe_lc (own := [("seat", 4)]) (g := gName 4) rfl sc_law_are_seats.nd (pi_tup (pv 1)) (blkOk_by (N := ["ties_here", "thing", "lost", "here", "seat", "pair"]) (own := [("seat", 4)]) (sc := defScope s_law_are_seats) (by decide +kernel)) (fun _ _ _ _ _ => (pg_name (i := 4) sc_law_are_seats.nd rfl (by first | exact Or.inl rfl | exact Or.inr rfl))) (fun _ _ _ _ _ => (pts_one (pt_not (pt_val (pe_call c_law_is_below_ok (hr.mono (by decide)) rfl c_law_is_below_m c_law_is_below_k c_law_is_below_b .nil pass0 (pa_cons (pv 4) (pa_cons (pe_op op_addU (pe_callB call_lenU (by rfl) T.n_len (by decide +kernel) (pa_cons (pv 0) pa_nil)) pe_int) pa_nil))))))) (fun _ _ _ _ _ => pe_int)) (pe_lst pa_nil) (nomark _)) (pss_one (ps_ret pe_bl)) pss_nil)
      (pss_cons (ps_setLc (i := 2) (own := [("here", 3)]) (g := gName 3) rfl sc_law_are_seats.nd rfl rfl (sw_true rfl rfl rfl (by decide +kernel)) (pi_range1 (by rfl) T.n_range (pa_cons (pe_op op_addU (pe_callB call_lenU (by rfl) T.n_len (by decide +kernel) (pa_cons (pv 0) pa_nil)) pe_int) pa_nil)) (blkOk_by (N := ["ties_here", "thing", "lost", "here", "seat", "pair"]) (own := [("here", 3)]) (sc := defScope s_law_are_seats) (by decide +kernel)) (fun _ _ _ _ _ => (pg_name (i := 3) sc_law_are_seats.nd rfl (by first | exact Or.inl rfl | exact Or.inr rfl))) (fun _ _ _ _ _ => (pts_one (pt_cmpR op_notIn_seq (pv 3) (pv 1) (by with_unfolding_all rfl)))) (fun _ _ _ _ _ => (pv 3)))
      (pss_one (ps_ret (pe_cmpR (op_eqU hr.units) (pe_lc (own := [("here", 3)]) (g := gName 3) rfl sc_law_are_seats.nd (pi_list (pv 2)) (blkOk_by (N := ["ties_here", "thing", "lost", "here", "seat", "pair"]) (own := [("here", 3)]) (sc := defScope s_law_are_seats) (by decide +kernel)) (fun _ _ _ _ _ => (pg_name (i := 3) sc_law_are_seats.nd rfl (by first | exact Or.inl rfl | exact Or.inr rfl))) (fun _ _ _ _ _ => (pts_one (pt_cmpR op_lt (pe_callB call_lenU (by rfl) T.n_len (by decide +kernel) (pa_cons (pe_lc (own := [("pair", 5)]) (g := gName 5) rfl sc_law_are_seats.nd (pi_tup (pv 0)) (blkOk_by (N := ["ties_here", "thing", "lost", "here", "seat", "pair"]) (own := [("pair", 5)]) (by rfl)) (fun _ _ _ _ _ => (pg_name (i := 5) sc_law_are_seats.nd rfl (by first | exact Or.inl rfl | exact Or.inr rfl))) (fun _ _ _ _ _ => (pts_one (pt_cmpR op_in_seq (pv 3) (pv 5) (by with_unfolding_all rfl)))) (fun _ _ _ _ _ => pe_int)) pa_nil)) pe_int (nomark _)))) (fun _ _ _ _ _ => pe_int)) (pe_lst pa_nil) (nomark _))))))),
    (rds_seq (rds_if (rdt_or (rdt_not (rdt_B (rd_isT (by decide) (rd_var (i := 1))))) (rdt_or (rdt_test (rd_op o2_eq (rd_cb cal_len (rda_cons (rd_var (i := 1)) rda_nil)) rd_int)) (rdt_test (rd_op o2_cmp (rd_cb cal_len (rda_cons (rd_var (i := 1)) rda_nil)) rd_int)))) (rds_ret rd_bl) rds_next)
      (rds_seq (rds_if (rdt_test (rd_op o2_neNil (rd_lc (rdj_of (rdi_tup (rd_var (i := 1)))) (rdg_name (vs := [4]) (by decide)) (rdt_not (rdt_B (rd_call0 (E := E0) (rda_cons (rd_var (i := 4)) (rda_cons (rd_op o2_add (rd_cb cal_len (rda_cons (rd_var (i := 0)) rda_nil)) rd_int) rda_nil))))) rd_int) (rd_lst rda_nil))) (rds_ret rd_bl) rds_next)
      (rds_seq (rds_set (rd_lc (rdj_of (rdi_range1 (rda_cons (rd_op o2_add (rd_cb cal_len (rda_cons (rd_var (i := 0)) rda_nil)) rd_int) rda_nil))) (rdg_name (vs := [3]) (by decide)) (rdt_test (rd_op o2_notIn (rd_var (i := 3)) (rd_var (i := 1)))) (rd_var (i := 3))))
      (rds_ret (rd_op o2_eq (rd_lc (rdj_of (rdi_list (rd_var (i := 2)))) (rdg_name (vs := [3]) (by decide)) (rdt_test (rd_op o2_cmp (rd_cb cal_len (rda_cons (rd_lc (rdj_of (rdi_tup (rd_var (i := 0)))) (rdg_name (vs := [5]) (by decide)) (rdt_test (rd_op o2_in (rd_var (i := 3)) (rd_var (i := 5)))) rd_int) rda_nil)) rd_int)) rd_int) (rd_lst rda_nil)))))), ?_⟩
  rintro ss n P ⟨ts, d, rfl, h21, xd, sd, p⟩
  walk_at "dl"
  have hpl : (ts.map pairI).length = ts.length := List.length_map ..
  refine ⟨bare_of xd, ?_⟩
  cases d with
  | tup xs =>
    have hx : nxs xs = true := xd
    have hs : xs.length ≤ 300 := of_decide_eq_true sd
    have eB : seatsB ts (.tup xs) = (decide (1 ≤ xs.length ∧ xs.length ≤ 12) && (xs.all (betw 0 (ts.length : Int)) && (upTo ts.length).all fun p => decide (p ∈ intsOf xs) || decide (3 ≤ (ts.filter (atB p)).length))) := rfl
    walk_at "dl"
    rw [hpl]
    by_cases h12 : 1 ≤ xs.length ∧ xs.length ≤ 12
    · rw [decide_eq_false (by omega : ¬ (xs.length : Int) = 0), decide_eq_false (by omega : ¬ (12 : Int) < (xs.length : Int))]
      refine ⟨by omega, compM_filter (f := fun y => if (!betw 0 (ts.length : Int) y) then some (.int 1) else none) (fun y hy n2 k q => ?_) ?_⟩
      · refine ⟨y, _, rfl, bare_of (nxs_mem hx hy), ?_⟩
        rw [show ((ts.length : Int) + 1 - 1) = ts.length by omega]
        cases e : betw 0 (ts.length : Int) y <;> simp only [e] at q ⊢ <;> simpa using q
      · have e9 : (xs.filterMap fun y => if (!betw 0 (ts.length : Int) y) then some (D.int 1) else none) = ones (fun y => !betw 0 (ts.length : Int) y) xs := rfl
        rw [e9, ones_nil]
        have e8 : (xs.all fun x => !!betw 0 (ts.length : Int) x) = xs.all (betw 0 (ts.length : Int)) := by simp
        rw [e8]
        cases ha : xs.all (betw 0 (ts.length : Int)) with
        | false =>
          rw [eB, ha] at p
          simpa using p
        | true =>
          obtain ⟨seats, rfl, bs⟩ := betw_ints ha
          rw [List.length_map] at h12
          have p : P (.bl (seatsB ts (tupI seats))) n := p
          rw [seatsB_ints, decide_eq_true h12, ha, Bool.true_and, Bool.true_and] at p
          have ec : ((ts.length : Int) + 1).toNat = ts.length + 1 := by omega
          show _ ∧ _ ∧ _ ∧ _
          rw [ec]
          have erl : (rangeD 0 (ts.length + 1)).length = ts.length + 1 := range_len
          refine ⟨by omega, by omega, by rw [erl]; omega, compM_filter (f := lostF seats) (fun x hx2 n2 k q => ?_) ?_⟩
          · obtain ⟨i, hi, rfl⟩ := range_mem hx2
            refine ⟨_, rfl, seats, rfl, ?_⟩
            have q' : k (match !(seats.any fun z => z == (i : Int)) with | true => some (.int (i : Int)) | false => none) n2 := q
            cases e : !(seats.any fun z => z == (i : Int)) with
            | true =>
              rw [e] at q'
              exact q'
            | false =>
              rw [e] at q'
              exact q'
          · rw [lost_map]
            have hb : ((upTo ts.length).filter fun p => !decide (p ∈ seats)).length ≤ ts.length + 1 := by
              have := List.length_filter_le (fun p => !decide (p ∈ seats)) (upTo ts.length)
              rw [upTo_len] at this
              exact this
            refine ⟨by rw [List.length_map]; omega, compM_filter (f := fun x => if (!deg3 ts x) then some (.int 1) else none) (fun x hx2 n2 k q => ?_) (eq_ones ?_)⟩
            · obtain ⟨v, hv, rfl⟩ := List.mem_map.mp hx2
              refine ⟨by omega, compM_filter (f := fun d => if atB v (pairD d) = true then some (.int 1) else none) (fun d hd n3 k3 q3 => ?_) ?_⟩
              · obtain ⟨e, he, rfl⟩ := List.mem_map.mp hd
                refine ⟨v, [e.1, e.2], rfl, rfl, ?_⟩
                rw [at_any]
                rw [pairD_at] at q3
                cases h : atB v e <;> rw [h] at q3 <;> exact q3
              · rw [at_ones, List.length_map]
                have e3 : decide (((ts.filter (atB v)).length : Int) < 3) = !deg3 ts (.int v) := by
                  show _ = !decide (3 ≤ (ts.filter (atB v)).length)
                  by_cases h3 : 3 ≤ (ts.filter (atB v)).length
                  · rw [decide_eq_true h3, decide_eq_false (by omega)]
                    rfl
                  · rw [decide_eq_false h3, decide_eq_true (by omega)]
                    rfl
                rw [e3]
                cases h : !deg3 ts (.int v) <;> simp only [h] at q ⊢ <;> simpa using q
            · have e7 : ((((upTo ts.length).filter fun p => !decide (p ∈ seats)).map D.int).all fun x => !!deg3 ts x) = (((upTo ts.length).filter fun p => !decide (p ∈ seats)).map D.int).all (deg3 ts) := by simp only [Bool.not_not]
              rw [e7, deg_all]
              exact p
    · rw [eB, decide_eq_false h12, Bool.false_and] at p
      by_cases h1 : (xs.length : Int) = 0
      · rw [decide_eq_true h1]
        exact p
      · rw [decide_eq_false h1, decide_eq_true (by omega : (12 : Int) < (xs.length : Int))]
        exact p
  | _ => exact p

abbrev s_law_seats_bent : Stmt := topS 40
theorem sc_law_seats_bent : FnScope ["state", "shape", "seats_here", "at", "some", "odd", "item"] ["state", "shape"] (defScope s_law_seats_bent) := ⟨rfl, rfl, rfl, by decide +kernel, rfl, by decide +kernel, by decide +kernel⟩
theorem ok_law_seats_bent (T : Txt K mg cs tk0) (D : DefAt K mg "_law_seats_bent" s_law_seats_bent ["state", "shape"]) (c_law_draw : Has P w K mg base CX0 1 "_law_draw" ["state", "size_here"] (sp0 K TT ds_law_draw)) (c_law_odd : Has P w K mg base CX0 3 "_law_odd" ["state"] (sp0 K TT ds_law_odd)) (c_law_less : Has P w K mg base CX0 1 "_law_less" ["row", "spot"] (sp0 K TT ds_law_less)) (c_law_put : Has P w K mg base CX0 1 "_law_put" ["row", "spot", "item"] (sp0 K TT ds_law_put)) (c_law_pick : Has P w K mg base CX0 2 "_law_pick" ["state", "several"] (sp0 K TT ds_law_pick)) : Has P w K mg base CX0 4 "_law_seats_bent" ["state", "shape"] (sp0 K TT ds_law_seats_bent) := by
  obtain ⟨f, fd, F, hm, hk, hb⟩ := D
  obtain ⟨_, _, c_law_draw_ok, c_law_draw_m, c_law_draw_k, c_law_draw_b⟩ := c_law_draw
  obtain ⟨_, _, c_law_odd_ok, c_law_odd_m, c_law_odd_k, c_law_odd_b⟩ := c_law_odd
  obtain ⟨_, _, c_law_less_ok, c_law_less_m, c_law_less_k, c_law_less_b⟩ := c_law_less
  obtain ⟨_, _, c_law_put_ok, c_law_put_m, c_law_put_k, c_law_put_b⟩ := c_law_put
  obtain ⟨_, _, c_law_pick_ok, c_law_pick_m, c_law_pick_k, c_law_pick_b⟩ := c_law_pick
  refine ⟨f, fd, F.okD sc_law_seats_bent (len_law_seats_bent) (fun S cdv A outer s H E hr => ?_), hm, hk, hb⟩
  refine ⟨_, _, (pss_cons (ps_set (i := 2) sc_law_seats_bent.nd rfl (by first | exact Or.inl rfl | exact Or.inr rfl) (pe_ix ix_seq (pv 1) pe_int (fun _ _ => rfl)))
      (pss_cons (ps_set (i := 3) sc_law_seats_bent.nd rfl (by first | exact Or.inl rfl | exact Or.inr rfl) (pe_call c_law_draw_ok (hr.mono (by decide)) rfl c_law_draw_m c_law_draw_k c_law_draw_b .nil pass0 (pa_cons (pv 0) (pa_cons (pe_callB call_lenU (by rfl) T.n_len (by decide +kernel) (pa_cons (pv 2) pa_nil)) pa_nil))))
      (pss_cons (ps_set (i := 4) sc_law_seats_bent.nd rfl (by first | exact Or.inl rfl | exact Or.inr rfl) (pe_lst (pa_cons (pe_call c_law_odd_ok (hr.mono (by decide)) rfl c_law_odd_m c_law_odd_k c_law_odd_b .nil pass0 (pa_cons (pv 0) pa_nil)) (pa_cons (pe_callTy call_rListU (by rfl) T.n_list (by decide +kernel) (pa_cons (pv 2) pa_nil)) (pa_cons (pe_tup pa_nil) (pa_cons (pe_op op_mulU (pv 2) pe_int) (pa_cons (pe_slice sl_U (pe_op op_mulU (pv 2) pe_int) po_none (po_some pe_int)) (pa_cons (pe_slice sl_U (pe_op op_mulU (pv 2) pe_int) po_none (po_some pe_int)) pa_nil))))))))
      (pss_cons (ps_set (i := 4) sc_law_seats_bent.nd rfl (by first | exact Or.inl rfl | exact Or.inr rfl) (pe_op SCo.op_catL (pv 4) (pe_lst (pa_cons (pe_call c_law_less_ok (hr.mono (by decide)) rfl c_law_less_m c_law_less_k c_law_less_b .nil pass0 (pa_cons (pv 2) (pa_cons (pv 3) pa_nil))) (pa_cons (pe_op op_addU (pv 2) (pe_tup (pa_cons (pe_callB call_lenU (by rfl) T.n_len (by decide +kernel) (pa_cons (pe_ix ix_seq (pv 1) pe_int (fun _ _ => rfl)) pa_nil)) pa_nil))) (pa_cons (pe_revT (pv 2)) pa_nil))))))
      (pss_cons (ps_set (i := 5) sc_law_seats_bent.nd rfl (by first | exact Or.inl rfl | exact Or.inr rfl) (pe_lst (pa_cons (pe_un un_neg pe_int) (pa_cons (pe_op op_addU (pe_callB call_lenU (by rfl) T.n_len (by decide +kernel) (pa_cons (pe_ix ix_seq (pv 1) pe_int (fun _ _ => rfl)) pa_nil)) pe_int) (pa_cons pe_non (pa_cons pe_bl (pa_cons pe_bl (pa_cons pe_str (pa_cons (pe_lst (pa_cons pe_int pa_nil)) (pa_cons pe_dnewK (pa_cons (pe_tup (pa_cons pe_int pa_nil)) (pa_cons (pe_tup (pa_cons (pe_lst (pa_cons pe_int pa_nil)) pa_nil)) pa_nil))))))))))))
      (pss_cons (ps_for PassesOwn.never rfl (pi_list (pe_op SCo.op_catL (pv 5) (pe_lst (pa_cons (pe_call c_law_draw_ok (hr.mono (by decide)) rfl c_law_draw_m c_law_draw_k c_law_draw_b .nil pass0 (pa_cons (pv 0) (pa_cons (pe_op op_addU (pe_callB call_lenU (by rfl) T.n_len (by decide +kernel) (pa_cons (pe_ix ix_seq (pv 1) pe_int (fun _ _ => rfl)) pa_nil)) pe_int) pa_nil))) (pa_cons pe_int (pa_cons pe_int pa_nil)))))) (pg_name (i := 6) sc_law_seats_bent.nd rfl (by first | exact Or.inl rfl | exact Or.inr rfl)) (pss_one (ps_expr (pe_bm PySem.F.plainAttrs_list PySem.F.slot_list_append PySem.F.type_list_append mt_append (pv 4) (pa_cons (pe_call c_law_put_ok (hr.mono (by decide)) rfl c_law_put_m c_law_put_k c_law_put_b .nil pass0 (pa_cons (pv 2) (pa_cons (pv 3) (pa_cons (pv 6) pa_nil)))) pa_nil)))))
      (pss_one (ps_ret (pe_call c_law_pick_ok (hr.mono (by decide)) rfl c_law_pick_m c_law_pick_k c_law_pick_b .nil pass0 (pa_cons (pv 0) (pa_cons (pv 4) pa_nil))))))))))),
    (rds_seq (rds_set (rd_op o2_ix (rd_var (i := 1)) rd_int))
      (rds_seq (rds_set (rd_call0 (E := E0) (rda_st (i := 0) (rda_cons (rd_cb cal_len (rda_cons (rd_var (i := 2)) rda_nil)) rda_nil))))
      (rds_seq (rds_setO (rdn_lst (rda_cons (rd_call0 (E := E0) (rda_st (i := 0) rda_nil)) (rda_cons (rd_cb cal_list (rda_cons (rd_var (i := 2)) rda_nil)) (rda_cons (rd_tup rda_nil) (rda_cons (rd_op o2_mul (rd_var (i := 2)) rd_int) (rda_cons (rd_sl (rd_op o2_mul (rd_var (i := 2)) rd_int) rdo_none (rdo_some rd_int)) (rda_cons (rd_sl (rd_op o2_mul (rd_var (i := 2)) rd_int) rdo_none (rdo_some rd_int)) rda_nil))))))))
      (rds_seq (rds_setO (rdn_addO (i := 4) (rd_lst (rda_cons (rd_call0 (E := E0) (rda_cons (rd_var (i := 2)) (rda_cons (rd_var (i := 3)) rda_nil))) (rda_cons (rd_op o2_add (rd_var (i := 2)) (rd_tup (rda_cons (rd_cb cal_len (rda_cons (rd_op o2_ix (rd_var (i := 1)) rd_int) rda_nil)) rda_nil))) (rda_cons (rd_revT (rd_var (i := 2))) rda_nil))))))
      (rds_seq (rds_set (rd_lst (rda_cons (rd_un o1_neg rd_int) (rda_cons (rd_op o2_add (rd_cb cal_len (rda_cons (rd_op o2_ix (rd_var (i := 1)) rd_int) rda_nil)) rd_int) (rda_cons rd_non (rda_cons rd_bl (rda_cons rd_bl (rda_cons rd_str (rda_cons (rd_lst (rda_cons rd_int rda_nil)) (rda_cons rd_dnew (rda_cons (rd_tup (rda_cons rd_int rda_nil)) (rda_cons (rd_tup (rda_cons (rd_lst (rda_cons rd_int rda_nil)) rda_nil)) rda_nil))))))))))))
      (rds_seq (rds_for (rdi_list (rd_op o2_addL (rd_var (i := 5)) (rd_lst (rda_cons (rd_call0 (E := E0) (rda_st (i := 0) (rda_cons (rd_op o2_add (rd_cb cal_len (rda_cons (rd_op o2_ix (rd_var (i := 1)) rd_int) rda_nil)) rd_int) rda_nil))) (rda_cons rd_int (rda_cons rd_int rda_nil)))))) (rdg_name (vs := [6]) (by decide)) (rds_appO (i := 4) (rd_call0 (E := E0) (rda_cons (rd_var (i := 2)) (rda_cons (rd_var (i := 3)) (rda_cons (rd_var (i := 6)) rda_nil))))))
      (rds_frz (i := 4) (rds_ret (rd_call0 (E := E0) (rda_st (i := 0) (rda_cons (rd_var (i := 4)) rda_nil))))))))))), ?_⟩
  rintro ss n P ⟨ts, seats, rfl, h21, s1, s12, hn, p⟩
  have hn' : n + 100 < 1099511627776 := hn
  walk_at "dl"
  refine ⟨_, at_nat (j := 1) rfl, ?_⟩
  have sl : (seats.map D.int).length = seats.length := List.length_map ..
  have sx : ∀ d ∈ seats.map D.int, nx d = true := fun d hd => by
    obtain ⟨v, _, rfl⟩ := List.mem_map.mp hd
    rfl
  have tl : (ts.map pairI).length = ts.length := List.length_map ..
  unfold tupI
  generalize seats.map D.int = Z at sl sx ⊢
  have okT : ∀ xs : List D, (∀ d ∈ xs, nx d = true) → xs.length ≤ 300 → nx (.tup xs) = true ∧ shortS (.tup xs) = true := fun xs h1 h2 => ⟨nxs_of h1, decide_eq_true h2⟩
  show ds_law_draw [.st, .d (.int (Z.length : Int))] _ _
  refine ⟨_, rfl, by omega, by omega, lim (by omega), fun a n1 a0 a1 hn1 => ?_⟩
  obtain ⟨a, rfl⟩ := Int.eq_ofNat_of_zero_le a0
  show ds_law_odd _ _ _
  refine ⟨rfl, lim (by omega), fun o n2 hn2 ho _ => ?_⟩
  have hne : Z ≠ [] := fun z => by rw [z] at sl; simp at sl; omega
  show _ ∧ _
  refine ⟨hne, by decide, by decide, by omega, ?_⟩
  show _ ∧ _
  refine ⟨hne, by decide, by decide, by omega, ?_⟩
  show _ ∧ _
  refine ⟨hne, by decide, by decide, by omega, ?_⟩
  show ds_law_less _ _ _
  refine ⟨Z, a, rfl, by omega, by omega, _, at_zero, ?_⟩
  show _ ∧ _
  refine ⟨by simp only [List.length_cons, List.length_nil]; omega, _, rfl, by simp, _, at_zero, _, at_zero, ?_⟩
  show ds_law_draw [.st, .d (.int (((ts.map pairI).length : Int) + 1))] _ _
  rw [tl]
  refine ⟨_, rfl, by omega, by omega, lim (by omega), fun b n3 b0 b1 hn3 => ?_⟩
  have fl : (List.replicate (Int.toNat 13) Z).flatten.length ≤ 156 := by
    rw [List.length_flatten, List.map_replicate, List.sum_replicate_nat]
    show 13 * Z.length ≤ 156
    omega
  have fx : ∀ d ∈ (List.replicate (Int.toNat 13) Z).flatten, nx d = true := fun d hd => by
    obtain ⟨l, hl, hd⟩ := List.mem_flatten.mp hd
    rw [(List.mem_replicate.mp hl).2] at hd
    exact sx d hd
  generalize (List.replicate (Int.toNat 13) Z).flatten = W at fl fx ⊢
  have c1 : (cutD W none (some 12)).length ≤ 156 := Nat.le_trans cut_len fl
  have c2 : (cutD W none (some 13)).length ≤ 156 := Nat.le_trans cut_len fl
  have start : ∀ d ∈ [o, D.lst Z, D.tup [], D.tup W, D.tup (cutD W none (some 12)), D.tup (cutD W none (some 13)), D.tup (List.take a Z ++ List.drop (a + 1) Z), D.tup (Z ++ [D.int (ts.length : Int)]), D.tup Z.reverse], nx d = true ∧ shortS d = true := fun d hd => by
    simp only [List.mem_cons, List.not_mem_nil, or_false] at hd
    rcases hd with rfl | rfl | rfl | rfl | rfl | rfl | rfl | rfl | rfl
    · refine ⟨ho.1, ?_⟩
      have z := ho.2.1
      cases d with
      | tup xs =>
        simp only [short2, Bool.and_eq_true, decide_eq_true_eq] at z
        exact decide_eq_true (by omega)
      | _ => rfl
    · exact ⟨nxs_of sx, rfl⟩
    · exact ⟨rfl, rfl⟩
    · exact okT _ fx (by omega)
    · exact okT _ (fun d hd => fx d (cut_mem hd)) (by omega)
    · exact okT _ (fun d hd => fx d (cut_mem hd)) (by omega)
    · refine okT _ (fun d hd => ?_) ?_
      · rcases List.mem_append.mp hd with hd | hd
        · exact sx d (List.mem_of_mem_take hd)
        · exact sx d (List.mem_of_mem_drop hd)
      · rw [List.length_append, List.length_take, List.length_drop]
        omega
    · refine okT _ (fun d hd => ?_) ?_
      · rcases List.mem_append.mp hd with hd | hd
        · exact sx d hd
        · rw [List.mem_singleton.mp hd]
          rfl
      · rw [List.length_append, List.length_singleton]
        omega
    · exact okT _ (fun d hd => sx d (List.mem_reverse.mp hd)) (by rw [List.length_reverse]; omega)
  generalize hg : [o, D.lst Z, D.tup [], D.tup W, D.tup (cutD W none (some 12)), D.tup (cutD W none (some 13)), D.tup (List.take a Z ++ List.drop (a + 1) Z), D.tup (Z ++ [D.int (ts.length : Int)]), D.tup Z.reverse] = so0 at start
  have hso : so0.length = 9 := by
    rw [← hg]
    rfl
  show ∃ I, _
  have its : ∀ x ∈ [D.int (-1), D.int ((ts.length : Int) + 1), D.non, D.bl true, D.bl false, D.str (Str.ofString "0"), D.lst [D.int 0], D.dic [] [], D.tup [D.int 0], D.tup [D.lst [D.int 0]], D.int b, D.int 0, D.int 1], nx x = true := fun x hx => by
    simp only [List.mem_cons, List.not_mem_nil, or_false] at hx
    rcases hx with rfl | rfl | rfl | rfl | rfl | rfl | rfl | rfl | rfl | rfl | rfl | rfl | rfl <;> rfl
  refine ⟨fun i ρ n' => n' = n3 ∧ ∃ (so : List D) (u5 u6 : SV), ρ = [.st, .d (.tup [.tup (ts.map pairI), .tup Z]), .d (.tup Z), .d (.int (a : Nat)), .ol so, u5, u6] ∧ so.length ≤ 9 + i ∧ (1 ≤ so.length) ∧ ∀ d ∈ so, nx d = true ∧ shortS d = true, ⟨rfl, so0, _, _, rfl, by omega, by omega, start⟩, ?_, ?_⟩
  · rintro i x ρ n' hx ⟨rfl, so, u5, u6, rfl, l1, l2, hall⟩
    have hi := (List.getElem?_eq_some_iff.mp hx).1
    simp only [List.length_cons, List.length_nil] at hi
    have xx := its x (List.mem_of_getElem? hx)
    clear hx
    walk_at "dl"
    show ds_law_put _ _ _
    refine ⟨Z, a, x, rfl, by omega, by omega, ?_⟩
    refine ⟨by omega, rfl, _, _, _, rfl, by rw [List.length_append, List.length_singleton]; omega, by rw [List.length_append, List.length_singleton]; omega, fun d hd => ?_⟩
    rcases List.mem_append.mp hd with hd | hd
    · exact hall d hd
    · rw [List.mem_singleton.mp hd]
      refine okT _ (fun d hd => ?_) ?_
      · rcases List.mem_append.mp hd with hd | hd
        · rcases List.mem_append.mp hd with hd | hd
          · exact sx d (List.mem_of_mem_take hd)
          · rw [List.mem_singleton.mp hd]
            exact xx
        · exact sx d (List.mem_of_mem_drop hd)
      · rw [List.length_append, List.length_append, List.length_take, List.length_drop, List.length_singleton]
        omega
  · rintro ρ n' ⟨rfl, so, u5, u6, rfl, l1, l2, hall⟩
    walk_at "dl"
    show ds_law_pick _ _ _
    exact ⟨so, .inr rfl, by omega, by omega, lim (by omega), fun d hd n4 hn4 => p d n4 (hall d hd).1 (hall d hd).2 (by omega)⟩

abbrev s_law_equal_apart : Stmt := topS 41
theorem sc_law_equal_apart : FnScope ["state", "made", "shape", "other", "mixed", "told", "row", "star", "thing"] ["state", "made", "shape", "other"] (defScope s_law_equal_apart) := ⟨rfl, rfl, rfl, by decide +kernel, rfl, by decide +kernel, by decide +kernel⟩
theorem ok_law_equal_apart (T : Txt K mg cs tk0) (D : DefAt K mg "_law_equal_apart" s_law_equal_apart ["state", "made", "shape", "other"]) (c_law_mixed : Has P w K mg base CX0 2 "_law_mixed" ["state", "several"] (sp0 K TT ds_law_mixed)) (c_law_grown : Has P w K mg base CX0 7 "_law_grown" ["shape"] (sp0 K TT (ds_law_grown cs))) (c_Tree : HasI P w K mg base 5 cs.Tree "ties" "seats" (spI K TT cs.Tree (ds_Tree_init cs))) (c_Tree_eq : SCo.HasEq P w K mg base 1 cs.Tree (sp0 K TT (ds_Tree_eq cs))) : Has P w K mg base CX0 8 "_law_equal_apart" ["state", "made", "shape", "other"] (sp0 K TT (ds_law_equal_apart cs)) := by
  obtain ⟨f, fd, F, hm, hk, hb⟩ := D
  obtain ⟨_, _, c_law_mixed_ok, c_law_mixed_m, c_law_mixed_k, c_law_mixed_b⟩ := c_law_mixed
  obtain ⟨_, _, c_law_grown_ok, c_law_grown_m, c_law_grown_k, c_law_grown_b⟩ := c_law_grown
  obtain ⟨_, _, c_Tree_ok, c_Tree_mk, c_Tree_b, c_Tree_kb⟩ := c_Tree
  refine ⟨f, fd, F.okD sc_law_equal_apart (len_law_equal_apart cs) (fun S cdv A outer s H E hr => ?_), hm, hk, hb⟩
  refine ⟨_, _, (pss_cons (ps_set (i := 4) sc_law_equal_apart.nd rfl (by first | exact Or.inl rfl | exact Or.inr rfl) (pe_tup (pa_cons (pe_ix ix_seq (pv 2) pe_int (fun _ _ => rfl)) (pa_cons (pe_callTy call_tupU (by rfl) T.n_tuple (by decide +kernel) (pa_cons (pe_call c_law_mixed_ok (hr.mono (by decide)) rfl c_law_mixed_m c_law_mixed_k c_law_mixed_b .nil pass0 (pa_cons (pv 0) (pa_cons (pe_ix ix_seq (pv 2) pe_int (fun _ _ => rfl)) pa_nil))) pa_nil)) pa_nil))))
      (pss_cons (ps_for PassesOwn.never rfl (pi_list (pe_lst (pa_cons (pv 2) (pa_cons (pv 3) (pa_cons (pv 4) pa_nil))))) (pg_name (i := 5) sc_law_equal_apart.nd rfl (by first | exact Or.inl rfl | exact Or.inr rfl)) (pss_one (ps_if (PW.pt (pw_or (pt_cmpR (op_neU hr.units) (pe_cmpR (SCo.op_eqOwn c_Tree_eq (hr.mono (by decide))) (pv 1) (pe_call c_law_grown_ok (hr.mono (by decide)) rfl c_law_grown_m c_law_grown_k c_law_grown_b .nil pass0 (pa_cons (pv 5) pa_nil)) (nomark _)) (pe_cmpR (op_eqU hr.units) (pv 2) (pv 5) (nomark _)) (nomark _)) (pw_or1 (pt_cmpR (op_neU hr.units) (pe_cmpR (SCo.op_neOwn c_Tree_eq (hr.mono (by decide))) (pv 1) (pe_call c_law_grown_ok (hr.mono (by decide)) rfl c_law_grown_m c_law_grown_k c_law_grown_b .nil pass0 (pa_cons (pv 5) pa_nil)) (nomark _)) (pe_cmpR (op_neU hr.units) (pv 2) (pv 5) (nomark _)) (nomark _))))) (pss_one (ps_ret pe_bl)) pss_nil)))
      (pss_cons (ps_par (i := 6) (j := 7) rfl sc_law_equal_apart.nd rfl rfl (by decide) rfl rfl (pa_cons (pe_make c_Tree_mk c_Tree_ok (hr.mono (by decide)) rfl T.g_Tree c_Tree_b .nil passL (pa_cons (pe_tup (pa_cons (pe_tup (pa_cons pe_int (pa_cons pe_int pa_nil))) (pa_cons (pe_tup (pa_cons pe_int (pa_cons pe_int pa_nil))) pa_nil))) (pa_cons (pe_tup (pa_cons pe_int (pa_cons pe_int (pa_cons pe_int pa_nil)))) pa_nil))) (pa_cons (pe_make c_Tree_mk c_Tree_ok (hr.mono (by decide)) rfl T.g_Tree c_Tree_b .nil passL (pa_cons (pe_tup (pa_cons (pe_tup (pa_cons pe_int (pa_cons pe_int pa_nil))) (pa_cons (pe_tup (pa_cons pe_int (pa_cons pe_int pa_nil))) pa_nil))) (pa_cons (pe_tup (pa_cons pe_int (pa_cons pe_int (pa_cons pe_int pa_nil)))) pa_nil))) pa_nil)) (by rfl))
      (pss_cons (ps_if (PW.pt (pw_or (pt_cmpR (SCo.op_eqOwn c_Tree_eq (hr.mono (by decide))) (pv 6) (pv 7) (nomark _)) (pw_or1 (pt_not (pt_cmpR (SCo.op_neOwn c_Tree_eq (hr.mono (by decide))) (pv 6) (pv 7) (nomark _)))))) (pss_one (ps_ret pe_bl)) pss_nil)
      (pss_one (ps_ret (pe_cmpR (op_eqU hr.units) (pe_lc (own := [("thing", 8)]) (g := gName 8) rfl sc_law_equal_apart.nd (pi_list (pe_lst (pa_cons pe_non (pa_cons (pv 2) (pa_cons (pe_ix ix_seq (pv 2) pe_int (fun _ _ => rfl)) (pa_cons pe_int (pa_cons pe_str (pa_cons (pe_lst pa_nil) (pa_cons pe_dnewK pa_nil))))))))) (blkOk_by (N := ["state", "made", "shape", "other", "mixed", "told", "row", "star", "thing"]) (own := [("thing", 8)]) (sc := defScope s_law_equal_apart) (by decide +kernel)) (fun _ _ _ _ _ => (pg_name (i := 8) sc_law_equal_apart.nd rfl (by first | exact Or.inl rfl | exact Or.inr rfl))) (fun _ _ _ _ _ => (pts_one (pt_cmpR (SCo.op_eqAny c_Tree_eq (hr.mono (by decide))) (pv 1) (pv 8) (nomark _)))) (fun _ _ _ _ _ => pe_int)) (pe_lst pa_nil) (nomark _)))))))),
    (rds_seq (rds_set (rd_tup (rda_cons (rd_op o2_ix (rd_var (i := 2)) rd_int) (rda_cons (rd_cb cal_tuple (rda_cons (rd_call0 (E := E0) (rda_st (i := 0) (rda_cons (rd_op o2_ix (rd_var (i := 2)) rd_int) rda_nil))) rda_nil)) rda_nil))))
      (rds_seq (rds_for (rdi_list (rd_lst (rda_cons (rd_var (i := 2)) (rda_cons (rd_var (i := 3)) (rda_cons (rd_var (i := 4)) rda_nil))))) (rdg_name (vs := [5]) (by decide)) (rds_if (rdt_or (rdt_test (rd_op o2_ne (rd_cmpO (rd_var (i := 1)) (rd_call0 (E := E0) (rda_cons (rd_var (i := 5)) rda_nil))) (rd_op o2_eq (rd_var (i := 2)) (rd_var (i := 5))))) (rdt_test (rd_op o2_ne (rd_cmpO (rd_var (i := 1)) (rd_call0 (E := E0) (rda_cons (rd_var (i := 5)) rda_nil))) (rd_op o2_ne (rd_var (i := 2)) (rd_var (i := 5)))))) (rds_ret rd_bl) rds_next))
      (rds_seq (rds_par (i := 6) (j := 7) (rda_cons (rd_make (rda_cons (rd_tup (rda_cons (rd_tup (rda_cons rd_int (rda_cons rd_int rda_nil))) (rda_cons (rd_tup (rda_cons rd_int (rda_cons rd_int rda_nil))) rda_nil))) (rda_cons (rd_tup (rda_cons rd_int (rda_cons rd_int (rda_cons rd_int rda_nil)))) rda_nil))) (rda_cons (rd_make (rda_cons (rd_tup (rda_cons (rd_tup (rda_cons rd_int (rda_cons rd_int rda_nil))) (rda_cons (rd_tup (rda_cons rd_int (rda_cons rd_int rda_nil))) rda_nil))) (rda_cons (rd_tup (rda_cons rd_int (rda_cons rd_int (rda_cons rd_int rda_nil)))) rda_nil))) rda_nil)))
      (rds_seq (rds_if (rdt_or (rdt_test (rd_cmpO (rd_var (i := 6)) (rd_var (i := 7)))) (rdt_not (rdt_test (rd_cmpO (rd_var (i := 6)) (rd_var (i := 7)))))) (rds_ret rd_bl) rds_next)
      (rds_ret (rd_op o2_eq (rd_lc (rdj_of (rdi_list (rd_lst (rda_cons rd_non (rda_cons (rd_var (i := 2)) (rda_cons (rd_op o2_ix (rd_var (i := 2)) rd_int) (rda_cons rd_int (rda_cons rd_str (rda_cons (rd_lst rda_nil) (rda_cons rd_dnew rda_nil)))))))))) (rdg_name (vs := [8]) (by decide)) (rdt_test (rd_cmpA (rd_var (i := 1)) (rd_var (i := 8)))) rd_int) (rd_lst rda_nil))))))), ?_⟩
  rintro ss n P ⟨ts, us, seats, sts, rfl, t, k, t', k', hn, p⟩
  have hn' : n + 300 < 1099511627776 := hn
  have kl := k.l
  walk_at "dl"
  refine ⟨_, at_zero, _, at_nat (j := 1) rfl, ?_⟩
  show ds_law_mixed _ _ _
  refine ⟨seats.map D.int, .inr rfl, by rw [List.length_map]; omega, lim (by omega), fun ys n1 hp hn1 => ?_⟩
  rw [List.length_map] at hn1
  obtain ⟨st, rfl, hp2⟩ := perm_seats hp
  refine ⟨fun i ρ n' => n' = n1 ∧ ∃ (u5 u6 u7 u8 : SV), ρ = [.st, .d (treeD cs.Tree ts seats), .d (.tup [.tup (ts.map pairI), tupI seats]), .d (.tup [.tup (us.map pairI), tupI sts]), .d (.tup [.tup (ts.map pairI), tupI st]), u5, u6, u7, u8], ⟨rfl, _, _, _, _, rfl⟩, ?_, ?_⟩
  · rintro i x ρ n' hx ⟨rfl, u5, u6, u7, u8, rfl⟩
    have ks : SeatsOk ts st := ⟨by rw [hp2.length_eq]; exact k.l, fun s hs => k.b s (hp2.mem_iff.mp hs), fun p p0 p1 hp' => k.lost p p0 p1 fun z => hp' (hp2.mem_iff.mpr z)⟩
    obtain ⟨vs, sv, rfl, tv, kv⟩ : ∃ vs sv, x = .tup [.tup (List.map pairI vs), tupI sv] ∧ TiesOk vs ∧ SeatsOk vs sv := by
      have hm := List.mem_of_getElem? hx
      simp only [List.mem_cons, List.not_mem_nil, or_false] at hm
      rcases hm with rfl | rfl | rfl
      · exact ⟨ts, seats, rfl, t, k⟩
      · exact ⟨us, sts, rfl, t', k'⟩
      · exact ⟨ts, st, rfl, t, ks⟩
    clear hx
    walk_at "dl"
    show ds_law_grown cs _ _ _
    refine ⟨vs, sv, rfl, tv, kv, ⟨_, _, rfl⟩, ⟨_, _, rfl⟩, ?_⟩
    have e : (decide (ts = vs) && decide (seats = sv)) = decide (ts = vs ∧ seats = sv) := by simp [Bool.decide_and]
    show ds_Tree_eq cs _ _ _
    refine ⟨ts, seats, _, rfl, .inl ⟨vs, sv, rfl, _, rfl, eqP_shape ?_⟩⟩
    rw [e]
    generalize decide (ts = vs ∧ seats = sv) = q at e
    show eqP not (.bl q) (.bl q) _
    rw [eqP_bl, decide_eq_true rfl]
    show ds_law_grown cs _ _ _
    refine ⟨vs, sv, rfl, tv, kv, ⟨_, _, rfl⟩, ⟨_, _, rfl⟩, ?_⟩
    show ds_Tree_eq cs _ _ _
    refine ⟨ts, seats, _, rfl, .inl ⟨vs, sv, rfl, _, rfl, eqP_shape ?_⟩⟩
    have e2 : (decide (ts = vs) && decide (seats = sv)) = decide (ts = vs ∧ seats = sv) := by simp [Bool.decide_and]
    rw [e2]
    generalize decide (ts = vs ∧ seats = sv) = q
    show eqP not (.bl !q) (.bl !q) _
    rw [eqP_bl, decide_eq_true rfl]
    exact ⟨rfl, _, _, _, _, rfl⟩
  · rintro ρ n' ⟨rfl, u5, u6, u7, u8, rfl⟩
    walk_at "dl"
    refine ⟨T.ic_Tree, _, _, rfl, rfl, rfl, rfl, .inr ⟨[(0, 1), (1, 2)], rfl, norm_ties fam_row norm_row, .inr ⟨seats_B seats_row, T.ic_Tree, _, _, rfl, rfl, rfl, rfl, .inr ⟨[(0, 1), (0, 2)], rfl, norm_ties fam_star norm_star, .inr ⟨seats_B seats_star, ?_⟩⟩⟩⟩⟩
    have ef : (decide (([(0, 1), (1, 2)] : List (Int × Int)) = [(0, 1), (0, 2)]) && decide (([0, 1, 2] : List Int) = [0, 1, 2])) = false := by decide
    refine ⟨⟨_, _, rfl⟩, ⟨_, _, rfl⟩, [(0, 1), (1, 2)], [0, 1, 2], _, rfl, .inl ⟨[(0, 1), (0, 2)], [0, 1, 2], rfl, _, rfl, ?_⟩⟩
    rw [ef]
    refine ⟨⟨_, _, rfl⟩, ⟨_, _, rfl⟩, [(0, 1), (1, 2)], [0, 1, 2], _, rfl, .inl ⟨[(0, 1), (0, 2)], [0, 1, 2], rfl, _, rfl, ?_⟩⟩
    rw [ef]
    refine ⟨_, at_zero, compM_filter (f := fun _ => none) (fun x hx n2 k q => ?_) ?_⟩
    · refine ⟨⟨_, _, rfl⟩, ?_⟩
      have fin : nx x = true → NotIns x → ds_Tree_eq cs [SV.d (treeD cs.Tree ts seats), SV.d x] n2 (fun d n3 => ∃ r, d = D.bl r ∧ match r with | true => k (some (D.int 1)) n3 | false => k none n3) := fun xx ni => ⟨ts, seats, x, rfl, .inr ⟨xx, ni, false, rfl, q⟩⟩
      simp only [List.mem_cons, List.not_mem_nil, or_false] at hx
      rcases hx with rfl | rfl | rfl | rfl | rfl | rfl | rfl
      · exact ⟨rfl, T.nf_Tree "NoneType" (by decide), fin rfl fun _ _ _ z => by cases z⟩
      · exact ⟨rfl, T.nf_Tree "tuple" (by decide), fin (nxs_of fun d hd => by
          simp only [List.mem_cons, List.not_mem_nil, or_false] at hd
          rcases hd with rfl | rfl
          · exact ties_nx
          · exact nxs_ints) fun _ _ _ z => by cases z⟩
      · exact ⟨rfl, T.nf_Tree "tuple" (by decide), fin ties_nx fun _ _ _ z => by cases z⟩
      · exact ⟨rfl, T.nf_Tree "int" (by decide), fin rfl fun _ _ _ z => by cases z⟩
      · exact ⟨rfl, T.nf_Tree "str" (by decide), fin rfl fun _ _ _ z => by cases z⟩
      · exact ⟨rfl, T.nf_Tree "list" (by decide), fin rfl fun _ _ _ z => by cases z⟩
      · exact ⟨rfl, T.nf_Tree "dict" (by decide), fin rfl fun _ _ _ z => by cases z⟩
    · show eqP id (.lst ((List.nil : List Int).map D.int)) (.lst []) _
      exact eq_ints (p _ (by omega))

abbrev s_law : Stmt := topS 42
theorem sc_law : FnScope ["script", "state", "turn", "shape", "ties_here", "seats_here", "made", "caught", "other", "here"] ["script"] (defScope s_law) := ⟨rfl, rfl, rfl, by decide +kernel, rfl, by decide +kernel, by decide +kernel⟩
theorem ok_law {f c9 : Addr} {fd : FuncData} (T : Txt K mg cs tk0) (F : FunC K "law" "law" s_law f fd c9) (c_law_begun : Has P w K mg base CX0 1 "_law_begun" ["script"] (spBegun K)) (c_law_shape : Has P w K mg base CX0 4 "_law_shape" ["state", "many"] (sp0 K TT ds_law_shape)) (c_law_draw : Has P w K mg base CX0 1 "_law_draw" ["state", "size_here"] (sp0 K TT ds_law_draw)) (c_law_swelled : Has P w K mg base CX0 4 "_law_swelled" ["state", "shape"] (sp0 K TT ds_law_swelled)) (c_law_seats_bent : Has P w K mg base CX0 4 "_law_seats_bent" ["state", "shape"] (sp0 K TT ds_law_seats_bent)) (c_law_are_ties : Has P w K mg base CX0 3 "_law_are_ties" ["thing"] (sp0 K TT ds_law_are_ties)) (c_law_are_seats : Has P w K mg base CX0 3 "_law_are_seats" ["ties_here", "thing"] (sp0 K TT ds_law_are_seats)) (c_law_equal_apart : Has P w K mg base CX0 8 "_law_equal_apart" ["state", "made", "shape", "other"] (sp0 K TT (ds_law_equal_apart cs))) (c_Tree : HasI P w K mg base 5 cs.Tree "ties" "seats" (spI K TT cs.Tree (ds_Tree_init cs))) (DC : DefAt K mg "_law_caught" s_law_caught ["work"]) (MA : MakesAt base mg TT "law.<locals>.<lambda>" c9) (DT : DefAt K mg "_law_told" s_law_told ["work"]) : FnG P w K mg base CX0 12 f fd ["script"] (spLaw K TT) := by
  obtain ⟨_, _, c_law_begun_ok, c_law_begun_m, c_law_begun_k, c_law_begun_b⟩ := c_law_begun
  obtain ⟨_, _, c_law_shape_ok, c_law_shape_m, c_law_shape_k, c_law_shape_b⟩ := c_law_shape
  obtain ⟨_, _, c_law_draw_ok, c_law_draw_m, c_law_draw_k, c_law_draw_b⟩ := c_law_draw
  obtain ⟨_, _, c_law_swelled_ok, c_law_swelled_m, c_law_swelled_k, c_law_swelled_b⟩ := c_law_swelled
  obtain ⟨_, _, c_law_seats_bent_ok, c_law_seats_bent_m, c_law_seats_bent_k, c_law_seats_bent_b⟩ := c_law_seats_bent
  obtain ⟨_, _, c_law_are_ties_ok, c_law_are_ties_m, c_law_are_ties_k, c_law_are_ties_b⟩ := c_law_are_ties
  obtain ⟨_, _, c_law_are_seats_ok, c_law_are_seats_m, c_law_are_seats_k, c_law_are_seats_b⟩ := c_law_are_seats
  obtain ⟨_, _, c_law_equal_apart_ok, c_law_equal_apart_m, c_law_equal_apart_k, c_law_equal_apart_b⟩ := c_law_equal_apart
  obtain ⟨_, _, c_Tree_ok, c_Tree_mk, c_Tree_b, c_Tree_kb⟩ := c_Tree
  obtain ⟨oc, od, kV, doc, pm, an, ct, osl, rfl, lk, hcd⟩ := F.ex
  refine ⟨fun vs H Q E h => by obtain ⟨a, ns, rfl, _⟩ := h; rfl, fun A hg hr0 outer s H args us vs Q E h r b e => LamX.run_ofS lk hcd sc_law hr0 e b r (by obtain ⟨a, ns, rfl, _⟩ := h; rfl) fun hr => ?_⟩
  obtain ⟨a, ns, rfl, hS, hl, tabs, q⟩ := h
  refine ⟨_, PSs.nox (X := cxOf CX0 P w K mg base ["script", "state", "turn", "shape", "ties_here", "seats_here", "made", "caught", "other", "here"] "law" (defScope s_law) f (.ref c9) A outer s H E) ((pss_cons (ps_set (i := 1) sc_law.nd rfl (by first | exact Or.inl rfl | exact Or.inr rfl) (pe_call c_law_begun_ok (hr.mono (by decide)) rfl c_law_begun_m c_law_begun_k c_law_begun_b .nil pass0 (pa_cons (pv 0) pa_nil)))
      (pss_cons (ps_for PassesOwn.never rfl (pi_range1 (by rfl) T.n_range (pa_cons (pe_op op_addU pe_int (pe_callB (call_rMin2 rfl) (by rfl) T.n_min (by decide +kernel) (pa_cons (pe_callB call_lenU (by rfl) T.n_len (by decide +kernel) (pa_cons (pv 0) pa_nil)) (pa_cons pe_int pa_nil)))) pa_nil)) (pg_name (i := 2) sc_law.nd rfl (by first | exact Or.inl rfl | exact Or.inr rfl)) (pss_cons (ps_set (i := 3) sc_law.nd rfl (by first | exact Or.inl rfl | exact Or.inr rfl) (pe_call c_law_shape_ok (hr.mono (by decide)) rfl c_law_shape_m c_law_shape_k c_law_shape_b .nil pass0 (pa_cons (pv 1) (pa_cons (pe_op op_addU pe_int (pe_call c_law_draw_ok (hr.mono (by decide)) rfl c_law_draw_m c_law_draw_k c_law_draw_b .nil pass0 (pa_cons (pv 1) (pa_cons pe_int pa_nil)))) pa_nil))))
      (pss_cons (ps_set (i := 4) sc_law.nd rfl (by first | exact Or.inl rfl | exact Or.inr rfl) (pe_ifExp (pt_cmpR (op_eqU hr.units) (pe_call c_law_draw_ok (hr.mono (by decide)) rfl c_law_draw_m c_law_draw_k c_law_draw_b .nil pass0 (pa_cons (pv 1) (pa_cons pe_int pa_nil))) pe_int (nomark _)) (pe_call c_law_swelled_ok (hr.mono (by decide)) rfl c_law_swelled_m c_law_swelled_k c_law_swelled_b .nil pass0 (pa_cons (pv 1) (pa_cons (pe_ix ix_seq (pv 3) pe_int (fun _ _ => rfl)) pa_nil))) (pe_ix ix_seq (pv 3) pe_int (fun _ _ => rfl))))
      (pss_cons (ps_set (i := 5) sc_law.nd rfl (by first | exact Or.inl rfl | exact Or.inr rfl) (pe_ifExp (pt_cmpR (op_eqU hr.units) (pe_call c_law_draw_ok (hr.mono (by decide)) rfl c_law_draw_m c_law_draw_k c_law_draw_b .nil pass0 (pa_cons (pv 1) (pa_cons pe_int pa_nil))) pe_int (nomark _)) (pe_call c_law_seats_bent_ok (hr.mono (by decide)) rfl c_law_seats_bent_m c_law_seats_bent_k c_law_seats_bent_b .nil pass0 (pa_cons (pv 1) (pa_cons (pv 3) pa_nil))) (pe_ix ix_seq (pv 3) pe_int (fun _ _ => rfl))))
      (pss_cons (ps_if (pt_cmpR (op_eqU hr.units) (pe_call c_law_draw_ok (hr.mono (by decide)) rfl c_law_draw_m c_law_draw_k c_law_draw_b .nil pass0 (pa_cons (pv 1) (pa_cons pe_int pa_nil))) pe_int (nomark _)) (pss_one (ps_set (i := 4) sc_law.nd rfl (by first | exact Or.inl rfl | exact Or.inr rfl) (pe_callTy call_tupU (by rfl) T.n_tuple (by decide +kernel) (pa_cons (pe_lc (own := [("here", 9)]) (g := gName 9) rfl sc_law.nd (pi_range2 (by rfl) T.n_range (pa_cons pe_int (pa_cons (pe_op op_addU pe_int (pe_call c_law_draw_ok (hr.mono (by decide)) rfl c_law_draw_m c_law_draw_k c_law_draw_b .nil pass0 (pa_cons (pv 1) (pa_cons pe_int pa_nil)))) pa_nil))) (blkOk_by (N := ["script", "state", "turn", "shape", "ties_here", "seats_here", "made", "caught", "other", "here"]) (own := [("here", 9)]) (sc := defScope s_law) (by decide +kernel)) (fun _ _ _ _ _ => (pg_name (i := 9) sc_law.nd rfl (by first | exact Or.inl rfl | exact Or.inr rfl))) (fun _ _ _ _ _ => pts_nil) (fun _ _ _ _ _ => (pe_tup (pa_cons pe_int (pa_cons (pv 9) pa_nil))))) pa_nil)))) pss_nil)
      (pss_cons (ps_asg (lam_call2 (k := 9) DT sc_law_told rfl (fun g cdg => told_makes rfl T.g_FoundError rfl rfl rfl rfl (fun _ _ => rfl)) MA rfl (hr.mono (by decide)) (LamX.lamS_by (sc := defScope s_law) (by decide +kernel)) rfl rfl (fun _ _ _ _ _ => rfl) (fun A9 outer9 s9 H9 E9 f9 c9 hr => (pe_make c_Tree_mk c_Tree_ok (hr.mono (by decide)) rfl T.g_Tree c_Tree_b .nil (passes_call (takes_of rfl rfl rfl rfl) (fun _ _ _ _ h => h)) (pa_cons (pv 4) (pa_cons (pv 5) pa_nil))))) (pg_tup rfl (pgs_cons (pg_name (i := 6) sc_law.nd rfl (by first | exact Or.inl rfl | exact Or.inr rfl)) (pgs_cons (pg_name (i := 7) sc_law.nd rfl (by first | exact Or.inl rfl | exact Or.inr rfl)) pgs_nil))))
      (pss_one (ps_if (pt_not (pt_val (pe_call c_law_are_ties_ok (hr.mono (by decide)) rfl c_law_are_ties_m c_law_are_ties_k c_law_are_ties_b .nil pass0 (pa_cons (pv 4) pa_nil)))) (pss_one (ps_if (pt_not (pt_val (pe_callB call_isD (by rfl) T.n_isinstance (by decide +kernel) (pa_cons (pv 7) (pa_cons (pe_glob (v := .ref cs.BadTies) rfl T.g_BadTies rfl) pa_nil))))) (pss_one (ps_ret pe_bl)) pss_nil)) (pss_one (ps_if (pt_not (pt_val (pe_call c_law_are_seats_ok (hr.mono (by decide)) rfl c_law_are_seats_m c_law_are_seats_k c_law_are_seats_b .nil pass0 (pa_cons (pv 4) (pa_cons (pv 5) pa_nil))))) (pss_one (ps_if (pt_not (pt_val (pe_callB call_isD (by rfl) T.n_isinstance (by decide +kernel) (pa_cons (pv 7) (pa_cons (pe_glob (v := .ref cs.BadSeats) rfl T.g_BadSeats rfl) pa_nil))))) (pss_one (ps_ret pe_bl)) pss_nil)) (pss_cons (ps_if (PW.pt (pw_or (pt_cmpR op_notN (pv 7) pe_non (nomark _)) (pw_or1 (pt_cmpR (op_neU hr.units) (pe_callB (call_repr hg hr.units) (by rfl) T.n_repr (by decide +kernel) (pa_cons (pe_tup (pa_cons (pe_fld (pv 6) rfl) (pa_cons (pe_fld (pv 6) rfl) pa_nil))) pa_nil)) (pe_callB (call_repr hg hr.units) (by rfl) T.n_repr (by decide +kernel) (pa_cons (pe_tup (pa_cons (pv 4) (pa_cons (pv 5) pa_nil))) pa_nil)) (nomark _))))) (pss_one (ps_ret pe_bl)) pss_nil)
      (pss_cons (ps_if (pt_not (pt_val (pe_callB call_isD (by rfl) T.n_isinstance (by decide +kernel) (pa_cons (lam_call (k := 9) DC sc_law_caught (fun g cdg => caught_gives rfl T.g_FoundError rfl rfl rfl) MA rfl (hr.mono (by decide)) (LamX.lamS_by (sc := defScope s_law) (by decide +kernel)) rfl rfl (fun _ _ _ _ _ => rfl) (fun A9 outer9 s9 H9 E9 f9 c9 hr => (pe_make c_Tree_mk c_Tree_ok (hr.mono (by decide)) rfl T.g_Tree c_Tree_b .nil (passes_call (takes_of rfl rfl rfl rfl) (fun _ _ _ _ h => h)) (pa_cons (pv 6) (pa_cons (pv 5) pa_nil))))) (pa_cons (pe_glob (v := .ref cs.BadTies) rfl T.g_BadTies rfl) pa_nil))))) (pss_one (ps_ret pe_bl)) pss_nil)
      (pss_cons (ps_if (pt_not (pt_val (pe_callB call_isD (by rfl) T.n_isinstance (by decide +kernel) (pa_cons (lam_call (k := 9) DC sc_law_caught (fun g cdg => caught_gives rfl T.g_FoundError rfl rfl rfl) MA rfl (hr.mono (by decide)) (LamX.lamS_by (sc := defScope s_law) (by decide +kernel)) rfl rfl (fun _ _ _ _ _ => rfl) (fun A9 outer9 s9 H9 E9 f9 c9 hr => (pe_make c_Tree_mk c_Tree_ok (hr.mono (by decide)) rfl T.g_Tree c_Tree_b .nil (passes_call (takes_of rfl rfl rfl rfl) (fun _ _ _ _ h => h)) (pa_cons (pv 4) (pa_cons (pv 6) pa_nil))))) (pa_cons (pe_glob (v := .ref cs.BadSeats) rfl T.g_BadSeats rfl) pa_nil))))) (pss_one (ps_ret pe_bl)) pss_nil)
      (pss_cons (ps_set (i := 8) sc_law.nd rfl (by first | exact Or.inl rfl | exact Or.inr rfl) (pe_call c_law_shape_ok (hr.mono (by decide)) rfl c_law_shape_m c_law_shape_k c_law_shape_b .nil pass0 (pa_cons (pv 1) (pa_cons (pe_callB call_lenU (by rfl) T.n_len (by decide +kernel) (pa_cons (pv 5) pa_nil)) pa_nil))))
      (pss_one (ps_if (pt_not (pt_val (pe_call c_law_equal_apart_ok (hr.mono (by decide)) rfl c_law_equal_apart_m c_law_equal_apart_k c_law_equal_apart_b .nil pass0 (pa_cons (pv 1) (pa_cons (pv 6) (pa_cons (pe_tup (pa_cons (pv 4) (pa_cons (pv 5) pa_nil))) (pa_cons (pv 8) pa_nil))))))) (pss_one (ps_ret pe_bl)) pss_nil))))))))))))))))
      (pss_one (ps_ret pe_bl))))), law_body (by decide) hS hl tabs q fun S => ⟨_, (rds_seq (rds_for (rdi_range1 (rda_cons (rd_op o2_add rd_int (rd_cb cal_min2 (rda_cons (rd_cb cal_len (rda_cons (rd_var (i := 0)) rda_nil)) (rda_cons rd_int rda_nil)))) rda_nil)) (rdg_name (vs := [2]) (by decide)) (rds_seq (rds_set (rd_call0 (E := E0) (rda_st (i := 1) (rda_cons (rd_op o2_add rd_int (rd_call0 (E := E0) (rda_st (i := 1) (rda_cons rd_int rda_nil)))) rda_nil))))
      (rds_seq (rds_set (rd_if (rdt_test (rd_op o2_eq (rd_call0 (E := E0) (rda_st (i := 1) (rda_cons rd_int rda_nil))) rd_int)) (rd_call0 (E := E0) (rda_st (i := 1) (rda_cons (rd_op o2_ix (rd_var (i := 3)) rd_int) rda_nil))) (rd_op o2_ix (rd_var (i := 3)) rd_int)))
      (rds_seq (rds_set (rd_if (rdt_test (rd_op o2_eq (rd_call0 (E := E0) (rda_st (i := 1) (rda_cons rd_int rda_nil))) rd_int)) (rd_call0 (E := E0) (rda_st (i := 1) (rda_cons (rd_var (i := 3)) rda_nil))) (rd_op o2_ix (rd_var (i := 3)) rd_int)))
      (rds_seq (rds_if (rdt_test (rd_op o2_eq (rd_call0 (E := E0) (rda_st (i := 1) (rda_cons rd_int rda_nil))) rd_int)) (rds_set (rd_cb cal_tuple (rda_cons (rd_lc (rdj_of (rdi_range2 (rda_cons rd_int (rda_cons (rd_op o2_add rd_int (rd_call0 (E := E0) (rda_st (i := 1) (rda_cons rd_int rda_nil)))) rda_nil)))) (rdg_name (vs := [9]) (by decide)) rdt_yes (rd_tup (rda_cons rd_int (rda_cons (rd_var (i := 9)) rda_nil)))) rda_nil))) rds_next)
      (rds_seq (rds_asgG (rd_told fun _ => (rd_make (rda_cons (rd_var (i := 4)) (rda_cons (rd_var (i := 5)) rda_nil)))) (rdg_two (vs := [6, 7]) (by decide) (by decide)))
      (rds_if (rdt_not (rdt_B (rd_call0 (E := E0) (rda_cons (rd_var (i := 4)) rda_nil)))) (rds_if (rdt_not (rdt_B (rd_is (.own _) (rd_var (i := 7))))) (rds_ret rd_bl) rds_next) (rds_if (rdt_not (rdt_B (rd_call0 (E := E0) (rda_cons (rd_var (i := 4)) (rda_cons (rd_var (i := 5)) rda_nil))))) (rds_if (rdt_not (rdt_B (rd_is (.own _) (rd_var (i := 7))))) (rds_ret rd_bl) rds_next) (rds_seq (rds_if (rdt_or (rdt_test (rd_op o2_notN (rd_var (i := 7)) rd_non)) (rdt_test (rd_op o2_ne (rd_cb cal_repr (rda_cons (rd_tup (rda_cons (rd_fld (rd_var (i := 6))) (rda_cons (rd_fld (rd_var (i := 6))) rda_nil))) rda_nil)) (rd_cb cal_repr (rda_cons (rd_tup (rda_cons (rd_var (i := 4)) (rda_cons (rd_var (i := 5)) rda_nil))) rda_nil))))) (rds_ret rd_bl) rds_next)
      (rds_seq (rds_if (rdt_not (rdt_B (rd_is (.own _) (rd_lam fun _ => (rd_make (rda_cons (rd_var (i := 6)) (rda_cons (rd_var (i := 5)) rda_nil))))))) (rds_ret rd_bl) rds_next)
      (rds_seq (rds_if (rdt_not (rdt_B (rd_is (.own _) (rd_lam fun _ => (rd_make (rda_cons (rd_var (i := 4)) (rda_cons (rd_var (i := 6)) rda_nil))))))) (rds_ret rd_bl) rds_next)
      (rds_seq (rds_set (rd_call0 (E := E0) (rda_st (i := 1) (rda_cons (rd_cb cal_len (rda_cons (rd_var (i := 5)) rda_nil)) rda_nil))))
      (rds_if (rdt_not (rdt_B (rd_call0 (E := E0) (rda_st (i := 1) (rda_cons (rd_var (i := 6)) (rda_cons (rd_tup (rda_cons (rd_var (i := 4)) (rda_cons (rd_var (i := 5)) rda_nil))) (rda_cons (rd_var (i := 8)) rda_nil))))))) (rds_ret rd_bl) rds_next)))))))))))))
      (rds_ret rd_bl)), ?_⟩⟩
  refine seq_for fun b0 hb0 c0 hc0 D0 hD0 => ?_
  walk_at "dl"
  obtain ⟨m, hm, hm2⟩ : ∃ m : Nat, ((1 : Int) + if 6 < ((List.map D.int ns).length : Int) then 6 else ((List.map D.int ns).length : Int)) = (m : Int) ∧ m ≤ 7 := by
    refine ⟨1 + min ns.length 6, ?_, by omega⟩
    rw [List.length_map]
    split <;> omega
  rw [hm]
  refine ⟨by omega, by omega, fun i ρ n => n ≤ 100000 * i ∧ ∃ (u2 u3 u4 u5 u6 u7 u8 u9 : SV), ρ = [.d (.lst (ns.map D.int)), .st, u2, u3, u4, u5, u6, u7, u8, u9], ⟨by omega, _, _, _, _, _, _, _, _, rfl⟩, ?_, fun _ _ _ => ?_⟩
  · rintro i x ρ n hx ⟨hn, u2, u3, u4, u5, u6, u7, u8, u9, rfl⟩
    obtain ⟨hi, rfl⟩ := range_get hx
    clear hx hm
    subst hb0
    refine seq_cut fun b1 hb1 D1 hD1 => ?_
    walk_at "dl"
    show ds_law_draw _ _ _
    refine ⟨12, rfl, by decide, by decide, lim (by omega), fun r n1 r0 r1 hn1 => ?_⟩
    obtain ⟨many, em, mb1, mb2⟩ : ∃ many : Nat, (1 : Int) + r = (many : Int) ∧ 1 ≤ many ∧ many ≤ 12 := ⟨(1 + r).toNat, by omega, by omega, by omega⟩
    show ds_law_shape [SV.st, SV.d (D.int (1 + r))] n1 _
    rw [em]
    refine ⟨many, rfl, mb1, mb2, lim (by omega), fun ts seats ls n2 t k sl told hr hn2 => ?_⟩
    subst hb1
    refine seq_cut fun b2 hb2 D2 hD2 => ?_
    have rest2 : ∀ (a : D) (n3 : Nat), nx a = true → short2 a = true → n3 ≤ n2 + 500 → b2 D2 [.d (.lst (ns.map D.int)), .st, .d (.int (i : Nat)), .d (.tup [.tup (ts.map pairI), tupI seats]), .d a, u5, u6, u7, u8, u9] n3 xF := fun a n3 xa sa hn3 => by
      subst hb2
      refine seq_cut fun b3 hb3 D3 hD3 => ?_
      have rest3 : ∀ (b : D) (n4 : Nat), nx b = true → shortS b = true → n4 ≤ n3 + 500 → b3 D3 [.d (.lst (ns.map D.int)), .st, .d (.int (i : Nat)), .d (.tup [.tup (ts.map pairI), tupI seats]), .d a, .d b, u6, u7, u8, u9] n4 xF := fun b n4 xb sb hn4 => by
        subst hb3
        refine seq_cut fun b4 hb4 D4 hD4 => ?_
        have rest4 : ∀ (a : D) (v9 : SV) (n5 : Nat), nx a = true → short2 a = true → n5 ≤ n4 + 500 → b4 D4 [.d (.lst (ns.map D.int)), .st, .d (.int (i : Nat)), .d (.tup [.tup (ts.map pairI), tupI seats]), .d a, .d b, u6, u7, u8, v9] n5 xF := fun a v9 n5 xa sa hn5 => by
          subst hb4
          refine seq_cut fun b5 hb5 D5 hD5 => ?_
          walk_at "dl"
          refine ⟨T.ic_Tree, ?_⟩
          show ds_Tree_init cs _ _ _ _
          refine ⟨a, b, rfl, xa, sa, xb, ?_⟩
          cases ht : tiesB a with
          | false =>
            refine .inl ⟨rfl, T.r_BadTies, ?_⟩
            subst hb5
            walk_at "dl"
            show ds_law_are_ties _ _ _
            refine ⟨a, rfl, xa, sa, ?_⟩
            rw [ht]
            refine ⟨trivial, true, T.i_BadTies, ?_⟩
            subst hD5 hD4 hD3 hD2 hD1
            exact ⟨by omega, _, _, _, _, _, _, _, _, rfl⟩
          | true =>
            obtain ⟨ts2, rfl, t2⟩ := tiesB_ok ht
            refine .inr ⟨ts2, rfl, t2, ?_⟩
            cases hs : seatsB ts2 b with
            | false =>
              refine .inl ⟨rfl, T.r_BadSeats, ?_⟩
              subst hb5
              walk_at "dl"
              show ds_law_are_ties _ _ _
              refine ⟨_, rfl, xa, sa, ?_⟩
              rw [ht]
              show ds_law_are_seats _ _ _
              refine ⟨ts2, b, rfl, t2.l, xb, sb, ?_⟩
              rw [hs]
              refine ⟨trivial, true, T.i_BadSeats, ?_⟩
              subst hD5 hD4 hD3 hD2 hD1
              exact ⟨by omega, _, _, _, _, _, _, _, _, rfl⟩
            | true =>
              obtain ⟨seats2, rfl, k2⟩ := seatsB_ok hs
              refine .inr ⟨rfl, ?_⟩
              subst hb5
              walk_at "dl"
              show ds_law_are_ties _ _ _
              refine ⟨_, rfl, xa, sa, ?_⟩
              rw [ht]
              show ds_law_are_seats _ _ _
              refine ⟨ts2, _, rfl, t2.l, xb, sb, ?_⟩
              rw [hs]
              obtain ⟨pr, er, okr⟩ := tree_repr t2 k2
              refine ⟨T.na_Tree_ties, _, rfl, T.na_Tree_seats, _, rfl, pr, er, okr, pr, er, okr, ?_⟩
              show eqP not (.str _) (.str _) _
              rw [eqP_str, decide_eq_true rfl]
              refine ⟨T.ic_Tree, ?_⟩
              show ds_Tree_init cs _ _ _ _
              have xm : nx (treeD cs.Tree ts2 seats2) = true := k13_nx
              refine ⟨_, _, rfl, xm, rfl, xb, .inl ⟨rfl, T.r_BadTies, trivial, true, T.i_BadTies, T.ic_Tree, ?_⟩⟩
              show ds_Tree_init cs _ _ _ _
              refine ⟨_, _, rfl, xa, sa, xm, .inr ⟨ts2, rfl, t2, .inl ⟨rfl, T.r_BadSeats, trivial, true, T.i_BadSeats, ?_⟩⟩⟩
              show ds_law_shape [.st, .d (.int ((seats2.map D.int).length : Int))] _ _
              rw [List.length_map]
              refine ⟨seats2.length, rfl, k2.l.1, k2.l.2, lim (by omega), fun us sts ls2 n6 t' k' _ _ _ hn6 => ?_⟩
              show ds_law_equal_apart cs _ _ _
              refine ⟨ts2, us, seats2, sts, rfl, t2, k2, t', k', lim (by omega), fun n7 hn7 => ?_⟩
              subst hD5 hD4 hD3 hD2 hD1
              exact ⟨by omega, _, _, _, _, _, _, _, _, rfl⟩
        walk_at "dl"
        show ds_law_draw _ _ _
        refine ⟨12, rfl, by decide, by decide, lim (by omega), fun r4 n5 q0 q1 hn5 => ?_⟩
        show eqP id (.int r4) (.int 0) _
        rw [eqP_int]
        simp only [id]
        cases decide (r4 = 0) with
        | false => exact rest4 a _ n5 xa sa (by omega)
        | true =>
          show ds_law_draw _ _ _
          refine ⟨2, rfl, by decide, by decide, lim (by omega), fun r5 n6 p0 p1 hn6 => ?_⟩
          have erl : (rangeD 1 ((22 + r5) - 1).toNat).length ≤ 22 := by rw [rangeA_len]; omega
          show _ ∧ _ ∧ _
          refine ⟨⟨by omega, by omega, by omega, by omega⟩, by omega, compM_map (f := fun x => .tup [.int 0, x]) (fun x hx n2 k q => q) ?_⟩
          have hel : ∀ d ∈ (rangeD 1 ((22 + r5) - 1).toNat).map fun x => D.tup [.int 0, x], nx d = true ∧ shortD d = true := fun d hd => by
            obtain ⟨x, hx, rfl⟩ := List.mem_map.mp hd
            obtain ⟨v, rfl⟩ := range_int hx
            exact ⟨rfl, rfl⟩
          refine rest4 _ _ n6 (nxs_of fun d hd => (hel d hd).1) ?_ (by omega)
          simp only [short2, Bool.and_eq_true, decide_eq_true_eq, List.all_eq_true]
          exact ⟨by rw [List.length_map]; omega, fun d hd => (hel d hd).2⟩
      walk_at "dl"
      show ds_law_draw _ _ _
      refine ⟨3, rfl, by decide, by decide, lim (by omega), fun r3 n4 q0 q1 hn4 => ?_⟩
      show eqP id (.int r3) (.int 0) _
      rw [eqP_int]
      simp only [id]
      have kl := k.l
      cases decide (r3 = 0) with
      | false => exact ⟨_, at_nat (j := 1) rfl, rest3 _ n4 nxs_ints (decide_eq_true (by rw [List.length_map]; omega)) (by omega)⟩
      | true =>
        show ds_law_seats_bent _ _ _
        exact ⟨ts, seats, rfl, t.l, kl.1, kl.2, lim (by omega), fun d n5 xd sd hn5 => rest3 d n5 xd sd (by omega)⟩
    walk_at "dl"
    show ds_law_draw _ _ _
    refine ⟨3, rfl, by decide, by decide, lim (by omega), fun r2 n3 q0 q1 hn3 => ?_⟩
    show eqP id (.int r2) (.int 0) _
    rw [eqP_int]
    simp only [id]
    cases decide (r2 = 0) with
    | false => exact ⟨_, at_zero, rest2 _ n3 ties_nx (ties_short t.l) (by omega)⟩
    | true =>
      refine ⟨_, at_zero, ?_⟩
      show ds_law_swelled _ _ _
      refine ⟨ts.map fun e => [e.1, e.2], ?_, by rw [List.length_map]; exact t.l, fun l hl => ?_, lim (by omega), fun d n4 xd sd hn4 => rest2 d n4 xd sd (by omega)⟩
      · rw [show (ts.map fun e => [e.1, e.2]).map tupI = ts.map pairI by rw [List.map_map]; rfl]
      · obtain ⟨e, _, rfl⟩ := List.mem_map.mp hl
        exact ⟨by simp, by simp⟩
  · subst hD0 hc0
    trivial

end
end Lw
namespace Lw
open L2 PySem DL
open He (ga ma fAd cT)
def dfs : List He.DefD := [
  ⟨("is_number", none), "is_number", "is_number", defArgs s_is_number, defBody s_is_number, defScope s_is_number, [], []⟩,
  ⟨("is_between", none), "is_between", "is_between", defArgs s_is_between, defBody s_is_between, defScope s_is_between, [], []⟩,
  ⟨("_law_is_whole", none), "_law_is_whole", "_law_is_whole", defArgs s_law_is_whole, defBody s_law_is_whole, defScope s_law_is_whole, [], []⟩,
  ⟨("_law_is_below", none), "_law_is_below", "_law_is_below", defArgs s_law_is_below, defBody s_law_is_below, defScope s_law_is_below, [], []⟩,
  ⟨("_law_less", none), "_law_less", "_law_less", defArgs s_law_less, defBody s_law_less, defScope s_law_less, [], []⟩,
  ⟨("_law_put", none), "_law_put", "_law_put", defArgs s_law_put, defBody s_law_put, defScope s_law_put, [], []⟩,
  ⟨("_law_draw", none), "_law_draw", "_law_draw", defArgs s_law_draw, defBody s_law_draw, defScope s_law_draw, [], []⟩,
  ⟨("_law_pick", none), "_law_pick", "_law_pick", defArgs s_law_pick, defBody s_law_pick, defScope s_law_pick, [], []⟩,
  ⟨("_law_odd", none), "_law_odd", "_law_odd", defArgs s_law_odd, defBody s_law_odd, defScope s_law_odd, [], []⟩,
  ⟨("_law_begun", none), "_law_begun", "_law_begun", defArgs s_law_begun, defBody s_law_begun, defScope s_law_begun, [], []⟩,
  ⟨("is_rising", none), "is_rising", "is_rising", defArgs s_is_rising, defBody s_is_rising, defScope s_is_rising, [], []⟩,
  ⟨("is_lot", none), "is_lot", "is_lot", defArgs s_is_lot, defBody s_is_lot, defScope s_is_lot, [], []⟩,
  ⟨("_law_mixed", none), "_law_mixed", "_law_mixed", defArgs s_law_mixed, defBody s_law_mixed, defScope s_law_mixed, [], []⟩,
  ⟨("_ties_at", none), "_ties_at", "_ties_at", defArgs s_ties_at, defBody s_ties_at, defScope s_ties_at, [], []⟩,
  ⟨("steps_to", none), "steps_to", "steps_to", defArgs s_steps_to, defBody s_steps_to, defScope s_steps_to, [], []⟩,
  ⟨("_are_ties", none), "_are_ties", "_are_ties", defArgs s_are_ties, defBody s_are_ties, defScope s_are_ties, [], []⟩,
  ⟨("_are_seats", none), "_are_seats", "_are_seats", defArgs s_are_seats, defBody s_are_seats, defScope s_are_seats, [], []⟩,
  ⟨("Tree", some "__init__"), "__init__", "Tree.__init__", defArgs s_Tree_init, defBody s_Tree_init, defScope s_Tree_init, [], []⟩,
  ⟨("_law_grown", none), "_law_grown", "_law_grown", defArgs s_law_grown, defBody s_law_grown, defScope s_law_grown, [], []⟩,
  ⟨("_law_normal", none), "_law_normal", "_law_normal", defArgs s_law_normal, defBody s_law_normal, defScope s_law_normal, [], []⟩,
  ⟨("_law_some_partings", none), "_law_some_partings", "_law_some_partings", defArgs s_law_some_partings, defBody s_law_some_partings, defScope s_law_some_partings, [], []⟩,
  ⟨("_law_swelled", none), "_law_swelled", "_law_swelled", defArgs s_law_swelled, defBody s_law_swelled, defScope s_law_swelled, [], []⟩,
  ⟨("_law_renumbered", none), "_law_renumbered", "_law_renumbered", defArgs s_law_renumbered, defBody s_law_renumbered, defScope s_law_renumbered, [], []⟩,
  ⟨("_law_shuffled", none), "_law_shuffled", "_law_shuffled", defArgs s_law_shuffled, defBody s_law_shuffled, defScope s_law_shuffled, [], []⟩,
  ⟨("_law_shape", none), "_law_shape", "_law_shape", defArgs s_law_shape, defBody s_law_shape, defScope s_law_shape, [], []⟩,
  ⟨("Tree", some "__eq__"), "__eq__", "Tree.__eq__", defArgs s_Tree_eq, defBody s_Tree_eq, defScope s_Tree_eq, [], []⟩,
  ⟨("_law_joins", none), "_law_joins", "_law_joins", defArgs s_law_joins, defBody s_law_joins, defScope s_law_joins, [], []⟩,
  ⟨("_law_are_ties", none), "_law_are_ties", "_law_are_ties", defArgs s_law_are_ties, defBody s_law_are_ties, defScope s_law_are_ties, [], []⟩,
  ⟨("_law_are_seats", none), "_law_are_seats", "_law_are_seats", defArgs s_law_are_seats, defBody s_law_are_seats, defScope s_law_are_seats, [], []⟩,
  ⟨("_law_seats_bent", none), "_law_seats_bent", "_law_seats_bent", defArgs s_law_seats_bent, defBody s_law_seats_bent, defScope s_law_seats_bent, [], []⟩,
  ⟨("_law_equal_apart", none), "_law_equal_apart", "_law_equal_apart", defArgs s_law_equal_apart, defBody s_law_equal_apart, defScope s_law_equal_apart, [], []⟩,
  ⟨("law", none), "law", "law", defArgs s_law, defBody s_law, defScope s_law, [], []⟩,
  ⟨("_law_caught", none), "_law_caught", "_law_caught", defArgs s_law_caught, defBody s_law_caught, defScope s_law_caught, [], []⟩,
  ⟨("_law_told", none), "_law_told", "_law_told", defArgs s_law_told, defBody s_law_told, defScope s_law_told, [], []⟩]
def fcs : List He.Fa := [.free "abs", .free "all", .free "bool", .free "enumerate", .free "int", .free "isinstance", .free "len", .free "list", .free "max", .free "min", .free "range", .free "repr", .free "sorted", .free "tuple", .free "zip", .int "LEAST_TIES_AT_LOST" 3, .int "MOST_TIES" 21, .int "MOST_VALLEYS" 12, .glo "BadSeats", .glo "BadTies", .glo "FoundError", .glo "Tree", .glo "is_number", .glo "is_between", .glo "_law_is_whole", .glo "_law_is_below", .glo "_law_less", .glo "_law_put", .glo "_law_draw", .glo "_law_pick", .glo "_law_odd", .glo "_law_begun", .glo "is_rising", .glo "is_lot", .glo "_law_mixed", .glo "_ties_at", .glo "steps_to", .glo "_are_ties", .glo "_are_seats", .glo "_law_grown", .glo "_law_normal", .glo "_law_some_partings", .glo "_law_swelled", .glo "_law_renumbered", .glo "_law_shuffled", .glo "_law_shape", .glo "_law_joins", .glo "_law_are_ties", .glo "_law_are_seats", .glo "_law_seats_bent", .glo "_law_equal_apart", .glo "law", .glo "_law_caught", .glo "_law_told"]
def tfs : List (He.Defn × Str) := [(("law", none), "law.<locals>.<lambda>")]
def csK (K : PySem.W.Frag) : Cs := ⟨ga K "BadSeats", ga K "BadTies", ga K "FoundError", ga K "Tree"⟩
def exs (K : PySem.W.Frag) : Bool := errFB K (ga K "FoundError") (ga K "BadSeats") && (errFB K (ga K "FoundError") (ga K "BadTies") && (clsFB K (ga K "Tree") ["ties", "seats"] && (mkB K (ga K "Tree") && (eqOB K (ga K "Tree") (fAd K ("Tree", some "__eq__")) && (nfB K (ga K "Tree") && (apartB K tfs))))))
def loose0 : List PySem.Str := ["FoundError", "BadSeats", "BadTies", "is_number", "is_between", "is_rising", "is_lot", "MOST_VALLEYS", "MOST_TIES", "LEAST_TIES_AT_LOST", "Tree", "_are_ties", "_are_seats", "_ties_at", "steps_to", "_law_begun", "_law_draw", "_law_pick", "_law_mixed", "_law_caught", "_law_is_whole", "_law_is_below", "_law_odd", "_law_less", "_law_put", "_law_joins", "_law_normal", "_law_told", "_law_some_partings", "_law_renumbered"]
def loose1 : List PySem.Str := ["_law_shuffled", "_law_shape", "_law_grown", "_law_swelled", "_law_are_ties", "_law_are_seats", "_law_seats_bent", "_law_equal_apart"]
abbrev loose : List PySem.Str := loose0 ++ loose1
abbrev Rw : PySem.W.OpenRow := PySem.W.OpenLaw.row PySem.Challenge.rw_oncefound_k10_trees_made_or_refused
abbrev tfd : List He.Defn := tfs.map (·.1)
abbrev hk : PySem.W.Hook := He.hookX 5 fcs dfs [] tfd exs
def ob (s : PySem.W.SharedT) : He.AlX := He.obsX 5 fcs dfs [] tfd exs (HandSHeadRun.getT s)
theorem ob_eq (s : PySem.W.SharedT) : ob s = hk.obs s.abs := He.obsX_eq (HandSHeadRun.getT_eq s)
set_option maxHeartbeats 0 in
theorem run (w : PySem.World) : HandSHeadRun.RunEq Rw (PySem.W.view Rw.prog [42]) hk ob 6000 loose w := by
  intro os
  kernel_rfl
theorem facts {w : PySem.World} {h : Heap} {K : PySem.W.Frag} {mg : Str → Option Value} {fa : Addr} (X : K.In h) (G : h.Ns mainGlobals mg) (hfa : mg ("law" : Str) = some (.ref fa)) (c : He.SaysX fcs dfs [] tfd exs w h K) : LawG PySem.Challenge.rw_oncefound_k10_trees_made_or_refused w K CX0 16 63 "script" mg fa h := by
  have d := c.t.d
  obtain ⟨fd_is_number, F_is_number⟩ := d.def_ 0 (d := ⟨("is_number", none), "is_number", "is_number", defArgs s_is_number, defBody s_is_number, defScope s_is_number, [], []⟩) rfl
  have g_is_number : mg "is_number" = some (.ref (ga K "is_number")) := He.glo_ok X G (d.fact 22 (f := .glo "is_number") rfl)
  have L_is_number : L2.Fun K "is_number" "is_number" s_is_number (fAd K ("is_number", none)) fd_is_number := He5.fun_of F_is_number
  have B_is_number : Binds K fd_is_number ["thing"] [] := L_is_number.binds fun _ _ _ _ _ _ us hl => match us, hl with | [_], _ => rfl
  obtain ⟨fd_is_between, F_is_between⟩ := d.def_ 1 (d := ⟨("is_between", none), "is_between", "is_between", defArgs s_is_between, defBody s_is_between, defScope s_is_between, [], []⟩) rfl
  have g_is_between : mg "is_between" = some (.ref (ga K "is_between")) := He.glo_ok X G (d.fact 23 (f := .glo "is_between") rfl)
  have L_is_between : L2.Fun K "is_between" "is_between" s_is_between (fAd K ("is_between", none)) fd_is_between := He5.fun_of F_is_between
  have B_is_between : Binds K fd_is_between ["thing", "low", "high"] [] := L_is_between.binds fun _ _ _ _ _ _ us hl => match us, hl with | [_, _, _], _ => rfl
  obtain ⟨fd_law_is_whole, F_law_is_whole⟩ := d.def_ 2 (d := ⟨("_law_is_whole", none), "_law_is_whole", "_law_is_whole", defArgs s_law_is_whole, defBody s_law_is_whole, defScope s_law_is_whole, [], []⟩) rfl
  have g_law_is_whole : mg "_law_is_whole" = some (.ref (ga K "_law_is_whole")) := He.glo_ok X G (d.fact 24 (f := .glo "_law_is_whole") rfl)
  have L_law_is_whole : L2.Fun K "_law_is_whole" "_law_is_whole" s_law_is_whole (fAd K ("_law_is_whole", none)) fd_law_is_whole := He5.fun_of F_law_is_whole
  have B_law_is_whole : Binds K fd_law_is_whole ["item"] [] := L_law_is_whole.binds fun _ _ _ _ _ _ us hl => match us, hl with | [_], _ => rfl
  obtain ⟨fd_law_is_below, F_law_is_below⟩ := d.def_ 3 (d := ⟨("_law_is_below", none), "_law_is_below", "_law_is_below", defArgs s_law_is_below, defBody s_law_is_below, defScope s_law_is_below, [], []⟩) rfl
  have g_law_is_below : mg "_law_is_below" = some (.ref (ga K "_law_is_below")) := He.glo_ok X G (d.fact 25 (f := .glo "_law_is_below") rfl)
  have L_law_is_below : L2.Fun K "_law_is_below" "_law_is_below" s_law_is_below (fAd K ("_law_is_below", none)) fd_law_is_below := He5.fun_of F_law_is_below
  have B_law_is_below : Binds K fd_law_is_below ["item", "size_here"] [] := L_law_is_below.binds fun _ _ _ _ _ _ us hl => match us, hl with | [_, _], _ => rfl
  obtain ⟨fd_law_less, F_law_less⟩ := d.def_ 4 (d := ⟨("_law_less", none), "_law_less", "_law_less", defArgs s_law_less, defBody s_law_less, defScope s_law_less, [], []⟩) rfl
  have g_law_less : mg "_law_less" = some (.ref (ga K "_law_less")) := He.glo_ok X G (d.fact 26 (f := .glo "_law_less") rfl)
  have L_law_less : L2.Fun K "_law_less" "_law_less" s_law_less (fAd K ("_law_less", none)) fd_law_less := He5.fun_of F_law_less
  have B_law_less : Binds K fd_law_less ["row", "spot"] [] := L_law_less.binds fun _ _ _ _ _ _ us hl => match us, hl with | [_, _], _ => rfl
  obtain ⟨fd_law_put, F_law_put⟩ := d.def_ 5 (d := ⟨("_law_put", none), "_law_put", "_law_put", defArgs s_law_put, defBody s_law_put, defScope s_law_put, [], []⟩) rfl
  have g_law_put : mg "_law_put" = some (.ref (ga K "_law_put")) := He.glo_ok X G (d.fact 27 (f := .glo "_law_put") rfl)
  have L_law_put : L2.Fun K "_law_put" "_law_put" s_law_put (fAd K ("_law_put", none)) fd_law_put := He5.fun_of F_law_put
  have B_law_put : Binds K fd_law_put ["row", "spot", "item"] [] := L_law_put.binds fun _ _ _ _ _ _ us hl => match us, hl with | [_, _, _], _ => rfl
  obtain ⟨fd_law_draw, F_law_draw⟩ := d.def_ 6 (d := ⟨("_law_draw", none), "_law_draw", "_law_draw", defArgs s_law_draw, defBody s_law_draw, defScope s_law_draw, [], []⟩) rfl
  have g_law_draw : mg "_law_draw" = some (.ref (ga K "_law_draw")) := He.glo_ok X G (d.fact 28 (f := .glo "_law_draw") rfl)
  have L_law_draw : L2.Fun K "_law_draw" "_law_draw" s_law_draw (fAd K ("_law_draw", none)) fd_law_draw := He5.fun_of F_law_draw
  have B_law_draw : Binds K fd_law_draw ["state", "size_here"] [] := L_law_draw.binds fun _ _ _ _ _ _ us hl => match us, hl with | [_, _], _ => rfl
  obtain ⟨fd_law_pick, F_law_pick⟩ := d.def_ 7 (d := ⟨("_law_pick", none), "_law_pick", "_law_pick", defArgs s_law_pick, defBody s_law_pick, defScope s_law_pick, [], []⟩) rfl
  have g_law_pick : mg "_law_pick" = some (.ref (ga K "_law_pick")) := He.glo_ok X G (d.fact 29 (f := .glo "_law_pick") rfl)
  have L_law_pick : L2.Fun K "_law_pick" "_law_pick" s_law_pick (fAd K ("_law_pick", none)) fd_law_pick := He5.fun_of F_law_pick
  have B_law_pick : Binds K fd_law_pick ["state", "several"] [] := L_law_pick.binds fun _ _ _ _ _ _ us hl => match us, hl with | [_, _], _ => rfl
  obtain ⟨fd_law_odd, F_law_odd⟩ := d.def_ 8 (d := ⟨("_law_odd", none), "_law_odd", "_law_odd", defArgs s_law_odd, defBody s_law_odd, defScope s_law_odd, [], []⟩) rfl
  have g_law_odd : mg "_law_odd" = some (.ref (ga K "_law_odd")) := He.glo_ok X G (d.fact 30 (f := .glo "_law_odd") rfl)
  have L_law_odd : L2.Fun K "_law_odd" "_law_odd" s_law_odd (fAd K ("_law_odd", none)) fd_law_odd := He5.fun_of F_law_odd
  have B_law_odd : Binds K fd_law_odd ["state"] [] := L_law_odd.binds fun _ _ _ _ _ _ us hl => match us, hl with | [_], _ => rfl
  obtain ⟨fd_law_begun, F_law_begun⟩ := d.def_ 9 (d := ⟨("_law_begun", none), "_law_begun", "_law_begun", defArgs s_law_begun, defBody s_law_begun, defScope s_law_begun, [], []⟩) rfl
  have g_law_begun : mg "_law_begun" = some (.ref (ga K "_law_begun")) := He.glo_ok X G (d.fact 31 (f := .glo "_law_begun") rfl)
  have L_law_begun : L2.Fun K "_law_begun" "_law_begun" s_law_begun (fAd K ("_law_begun", none)) fd_law_begun := He5.fun_of F_law_begun
  have B_law_begun : Binds K fd_law_begun ["script"] [] := L_law_begun.binds fun _ _ _ _ _ _ us hl => match us, hl with | [_], _ => rfl
  obtain ⟨fd_is_rising, F_is_rising⟩ := d.def_ 10 (d := ⟨("is_rising", none), "is_rising", "is_rising", defArgs s_is_rising, defBody s_is_rising, defScope s_is_rising, [], []⟩) rfl
  have g_is_rising : mg "is_rising" = some (.ref (ga K "is_rising")) := He.glo_ok X G (d.fact 32 (f := .glo "is_rising") rfl)
  have L_is_rising : L2.Fun K "is_rising" "is_rising" s_is_rising (fAd K ("is_rising", none)) fd_is_rising := He5.fun_of F_is_rising
  have B_is_rising : Binds K fd_is_rising ["things"] [] := L_is_rising.binds fun _ _ _ _ _ _ us hl => match us, hl with | [_], _ => rfl
  obtain ⟨fd_is_lot, F_is_lot⟩ := d.def_ 11 (d := ⟨("is_lot", none), "is_lot", "is_lot", defArgs s_is_lot, defBody s_is_lot, defScope s_is_lot, [], []⟩) rfl
  have g_is_lot : mg "is_lot" = some (.ref (ga K "is_lot")) := He.glo_ok X G (d.fact 33 (f := .glo "is_lot") rfl)
  have L_is_lot : L2.Fun K "is_lot" "is_lot" s_is_lot (fAd K ("is_lot", none)) fd_is_lot := He5.fun_of F_is_lot
  have B_is_lot : Binds K fd_is_lot ["thing", "low", "high"] [] := L_is_lot.binds fun _ _ _ _ _ _ us hl => match us, hl with | [_, _, _], _ => rfl
  obtain ⟨fd_law_mixed, F_law_mixed⟩ := d.def_ 12 (d := ⟨("_law_mixed", none), "_law_mixed", "_law_mixed", defArgs s_law_mixed, defBody s_law_mixed, defScope s_law_mixed, [], []⟩) rfl
  have g_law_mixed : mg "_law_mixed" = some (.ref (ga K "_law_mixed")) := He.glo_ok X G (d.fact 34 (f := .glo "_law_mixed") rfl)
  have L_law_mixed : L2.Fun K "_law_mixed" "_law_mixed" s_law_mixed (fAd K ("_law_mixed", none)) fd_law_mixed := He5.fun_of F_law_mixed
  have B_law_mixed : Binds K fd_law_mixed ["state", "several"] [] := L_law_mixed.binds fun _ _ _ _ _ _ us hl => match us, hl with | [_, _], _ => rfl
  obtain ⟨fd_ties_at, F_ties_at⟩ := d.def_ 13 (d := ⟨("_ties_at", none), "_ties_at", "_ties_at", defArgs s_ties_at, defBody s_ties_at, defScope s_ties_at, [], []⟩) rfl
  have g_ties_at : mg "_ties_at" = some (.ref (ga K "_ties_at")) := He.glo_ok X G (d.fact 35 (f := .glo "_ties_at") rfl)
  have L_ties_at : L2.Fun K "_ties_at" "_ties_at" s_ties_at (fAd K ("_ties_at", none)) fd_ties_at := He5.fun_of F_ties_at
  have B_ties_at : Binds K fd_ties_at ["ties", "place"] [] := L_ties_at.binds fun _ _ _ _ _ _ us hl => match us, hl with | [_, _], _ => rfl
  obtain ⟨fd_steps_to, F_steps_to⟩ := d.def_ 14 (d := ⟨("steps_to", none), "steps_to", "steps_to", defArgs s_steps_to, defBody s_steps_to, defScope s_steps_to, [], []⟩) rfl
  have g_steps_to : mg "steps_to" = some (.ref (ga K "steps_to")) := He.glo_ok X G (d.fact 36 (f := .glo "steps_to") rfl)
  have L_steps_to : L2.Fun K "steps_to" "steps_to" s_steps_to (fAd K ("steps_to", none)) fd_steps_to := He5.fun_of F_steps_to
  have B_steps_to : Binds K fd_steps_to ["ties", "goal"] [] := L_steps_to.binds fun _ _ _ _ _ _ us hl => match us, hl with | [_, _], _ => rfl
  obtain ⟨fd_are_ties, F_are_ties⟩ := d.def_ 15 (d := ⟨("_are_ties", none), "_are_ties", "_are_ties", defArgs s_are_ties, defBody s_are_ties, defScope s_are_ties, [], []⟩) rfl
  have g_are_ties : mg "_are_ties" = some (.ref (ga K "_are_ties")) := He.glo_ok X G (d.fact 37 (f := .glo "_are_ties") rfl)
  have L_are_ties : L2.Fun K "_are_ties" "_are_ties" s_are_ties (fAd K ("_are_ties", none)) fd_are_ties := He5.fun_of F_are_ties
  have B_are_ties : Binds K fd_are_ties ["thing"] [] := L_are_ties.binds fun _ _ _ _ _ _ us hl => match us, hl with | [_], _ => rfl
  obtain ⟨fd_are_seats, F_are_seats⟩ := d.def_ 16 (d := ⟨("_are_seats", none), "_are_seats", "_are_seats", defArgs s_are_seats, defBody s_are_seats, defScope s_are_seats, [], []⟩) rfl
  have g_are_seats : mg "_are_seats" = some (.ref (ga K "_are_seats")) := He.glo_ok X G (d.fact 38 (f := .glo "_are_seats") rfl)
  have L_are_seats : L2.Fun K "_are_seats" "_are_seats" s_are_seats (fAd K ("_are_seats", none)) fd_are_seats := He5.fun_of F_are_seats
  have B_are_seats : Binds K fd_are_seats ["ties", "thing"] [] := L_are_seats.binds fun _ _ _ _ _ _ us hl => match us, hl with | [_, _], _ => rfl
  obtain ⟨fd_Tree_init, F_Tree_init⟩ := d.def_ 17 (d := ⟨("Tree", some "__init__"), "__init__", "Tree.__init__", defArgs s_Tree_init, defBody s_Tree_init, defScope s_Tree_init, [], []⟩) rfl
  have L_Tree_init : L2.Fun K "__init__" "Tree.__init__" s_Tree_init (fAd K ("Tree", some "__init__")) fd_Tree_init := He5.fun_of F_Tree_init
  have B_Tree_init : Binds K fd_Tree_init ["self", "ties", "seats"] [] := L_Tree_init.binds fun _ _ _ _ _ _ us hl => match us, hl with | [_, _, _], _ => rfl
  obtain ⟨fd_law_grown, F_law_grown⟩ := d.def_ 18 (d := ⟨("_law_grown", none), "_law_grown", "_law_grown", defArgs s_law_grown, defBody s_law_grown, defScope s_law_grown, [], []⟩) rfl
  have g_law_grown : mg "_law_grown" = some (.ref (ga K "_law_grown")) := He.glo_ok X G (d.fact 39 (f := .glo "_law_grown") rfl)
  have L_law_grown : L2.Fun K "_law_grown" "_law_grown" s_law_grown (fAd K ("_law_grown", none)) fd_law_grown := He5.fun_of F_law_grown
  have B_law_grown : Binds K fd_law_grown ["shape"] [] := L_law_grown.binds fun _ _ _ _ _ _ us hl => match us, hl with | [_], _ => rfl
  obtain ⟨fd_law_normal, F_law_normal⟩ := d.def_ 19 (d := ⟨("_law_normal", none), "_law_normal", "_law_normal", defArgs s_law_normal, defBody s_law_normal, defScope s_law_normal, [], []⟩) rfl
  have g_law_normal : mg "_law_normal" = some (.ref (ga K "_law_normal")) := He.glo_ok X G (d.fact 40 (f := .glo "_law_normal") rfl)
  have L_law_normal : L2.Fun K "_law_normal" "_law_normal" s_law_normal (fAd K ("_law_normal", none)) fd_law_normal := He5.fun_of F_law_normal
  have B_law_normal : Binds K fd_law_normal ["many", "some"] [] := L_law_normal.binds fun _ _ _ _ _ _ us hl => match us, hl with | [_, _], _ => rfl
  obtain ⟨fd_law_some_partings, F_law_some_partings⟩ := d.def_ 20 (d := ⟨("_law_some_partings", none), "_law_some_partings", "_law_some_partings", defArgs s_law_some_partings, defBody s_law_some_partings, defScope s_law_some_partings, [], []⟩) rfl
  have g_law_some_partings : mg "_law_some_partings" = some (.ref (ga K "_law_some_partings")) := He.glo_ok X G (d.fact 41 (f := .glo "_law_some_partings") rfl)
  have L_law_some_partings : L2.Fun K "_law_some_partings" "_law_some_partings" s_law_some_partings (fAd K ("_law_some_partings", none)) fd_law_some_partings := He5.fun_of F_law_some_partings
  have B_law_some_partings : Binds K fd_law_some_partings ["state", "many"] [] := L_law_some_partings.binds fun _ _ _ _ _ _ us hl => match us, hl with | [_, _], _ => rfl
  obtain ⟨fd_law_swelled, F_law_swelled⟩ := d.def_ 21 (d := ⟨("_law_swelled", none), "_law_swelled", "_law_swelled", defArgs s_law_swelled, defBody s_law_swelled, defScope s_law_swelled, [], []⟩) rfl
  have g_law_swelled : mg "_law_swelled" = some (.ref (ga K "_law_swelled")) := He.glo_ok X G (d.fact 42 (f := .glo "_law_swelled") rfl)
  have L_law_swelled : L2.Fun K "_law_swelled" "_law_swelled" s_law_swelled (fAd K ("_law_swelled", none)) fd_law_swelled := He5.fun_of F_law_swelled
  have B_law_swelled : Binds K fd_law_swelled ["state", "shape"] [] := L_law_swelled.binds fun _ _ _ _ _ _ us hl => match us, hl with | [_, _], _ => rfl
  obtain ⟨fd_law_renumbered, F_law_renumbered⟩ := d.def_ 22 (d := ⟨("_law_renumbered", none), "_law_renumbered", "_law_renumbered", defArgs s_law_renumbered, defBody s_law_renumbered, defScope s_law_renumbered, [], []⟩) rfl
  have g_law_renumbered : mg "_law_renumbered" = some (.ref (ga K "_law_renumbered")) := He.glo_ok X G (d.fact 43 (f := .glo "_law_renumbered") rfl)
  have L_law_renumbered : L2.Fun K "_law_renumbered" "_law_renumbered" s_law_renumbered (fAd K ("_law_renumbered", none)) fd_law_renumbered := He5.fun_of F_law_renumbered
  have B_law_renumbered : Binds K fd_law_renumbered ["order", "shape"] [] := L_law_renumbered.binds fun _ _ _ _ _ _ us hl => match us, hl with | [_, _], _ => rfl
  obtain ⟨fd_law_shuffled, F_law_shuffled⟩ := d.def_ 23 (d := ⟨("_law_shuffled", none), "_law_shuffled", "_law_shuffled", defArgs s_law_shuffled, defBody s_law_shuffled, defScope s_law_shuffled, [], []⟩) rfl
  have g_law_shuffled : mg "_law_shuffled" = some (.ref (ga K "_law_shuffled")) := He.glo_ok X G (d.fact 44 (f := .glo "_law_shuffled") rfl)
  have L_law_shuffled : L2.Fun K "_law_shuffled" "_law_shuffled" s_law_shuffled (fAd K ("_law_shuffled", none)) fd_law_shuffled := He5.fun_of F_law_shuffled
  have B_law_shuffled : Binds K fd_law_shuffled ["state", "shape"] [] := L_law_shuffled.binds fun _ _ _ _ _ _ us hl => match us, hl with | [_, _], _ => rfl
  obtain ⟨fd_law_shape, F_law_shape⟩ := d.def_ 24 (d := ⟨("_law_shape", none), "_law_shape", "_law_shape", defArgs s_law_shape, defBody s_law_shape, defScope s_law_shape, [], []⟩) rfl
  have g_law_shape : mg "_law_shape" = some (.ref (ga K "_law_shape")) := He.glo_ok X G (d.fact 45 (f := .glo "_law_shape") rfl)
  have L_law_shape : L2.Fun K "_law_shape" "_law_shape" s_law_shape (fAd K ("_law_shape", none)) fd_law_shape := He5.fun_of F_law_shape
  have B_law_shape : Binds K fd_law_shape ["state", "many"] [] := L_law_shape.binds fun _ _ _ _ _ _ us hl => match us, hl with | [_, _], _ => rfl
  obtain ⟨fd_Tree_eq, F_Tree_eq⟩ := d.def_ 25 (d := ⟨("Tree", some "__eq__"), "__eq__", "Tree.__eq__", defArgs s_Tree_eq, defBody s_Tree_eq, defScope s_Tree_eq, [], []⟩) rfl
  have L_Tree_eq : L2.Fun K "__eq__" "Tree.__eq__" s_Tree_eq (fAd K ("Tree", some "__eq__")) fd_Tree_eq := He5.fun_of F_Tree_eq
  have B_Tree_eq : Binds K fd_Tree_eq ["self", "other"] [] := L_Tree_eq.binds fun _ _ _ _ _ _ us hl => match us, hl with | [_, _], _ => rfl
  obtain ⟨fd_law_joins, F_law_joins⟩ := d.def_ 26 (d := ⟨("_law_joins", none), "_law_joins", "_law_joins", defArgs s_law_joins, defBody s_law_joins, defScope s_law_joins, [], []⟩) rfl
  have g_law_joins : mg "_law_joins" = some (.ref (ga K "_law_joins")) := He.glo_ok X G (d.fact 46 (f := .glo "_law_joins") rfl)
  have L_law_joins : L2.Fun K "_law_joins" "_law_joins" s_law_joins (fAd K ("_law_joins", none)) fd_law_joins := He5.fun_of F_law_joins
  have B_law_joins : Binds K fd_law_joins ["customs_here", "some"] [] := L_law_joins.binds fun _ _ _ _ _ _ us hl => match us, hl with | [_, _], _ => rfl
  obtain ⟨fd_law_are_ties, F_law_are_ties⟩ := d.def_ 27 (d := ⟨("_law_are_ties", none), "_law_are_ties", "_law_are_ties", defArgs s_law_are_ties, defBody s_law_are_ties, defScope s_law_are_ties, [], []⟩) rfl
  have g_law_are_ties : mg "_law_are_ties" = some (.ref (ga K "_law_are_ties")) := He.glo_ok X G (d.fact 47 (f := .glo "_law_are_ties") rfl)
  have L_law_are_ties : L2.Fun K "_law_are_ties" "_law_are_ties" s_law_are_ties (fAd K ("_law_are_ties", none)) fd_law_are_ties := He5.fun_of F_law_are_ties
  have B_law_are_ties : Binds K fd_law_are_ties ["thing"] [] := L_law_are_ties.binds fun _ _ _ _ _ _ us hl => match us, hl with | [_], _ => rfl
  obtain ⟨fd_law_are_seats, F_law_are_seats⟩ := d.def_ 28 (d := ⟨("_law_are_seats", none), "_law_are_seats", "_law_are_seats", defArgs s_law_are_seats, defBody s_law_are_seats, defScope s_law_are_seats, [], []⟩) rfl
  have g_law_are_seats : mg "_law_are_seats" = some (.ref (ga K "_law_are_seats")) := He.glo_ok X G (d.fact 48 (f := .glo "_law_are_seats") rfl)
  have L_law_are_seats : L2.Fun K "_law_are_seats" "_law_are_seats" s_law_are_seats (fAd K ("_law_are_seats", none)) fd_law_are_seats := He5.fun_of F_law_are_seats
  have B_law_are_seats : Binds K fd_law_are_seats ["ties_here", "thing"] [] := L_law_are_seats.binds fun _ _ _ _ _ _ us hl => match us, hl with | [_, _], _ => rfl
  obtain ⟨fd_law_seats_bent, F_law_seats_bent⟩ := d.def_ 29 (d := ⟨("_law_seats_bent", none), "_law_seats_bent", "_law_seats_bent", defArgs s_law_seats_bent, defBody s_law_seats_bent, defScope s_law_seats_bent, [], []⟩) rfl
  have g_law_seats_bent : mg "_law_seats_bent" = some (.ref (ga K "_law_seats_bent")) := He.glo_ok X G (d.fact 49 (f := .glo "_law_seats_bent") rfl)
  have L_law_seats_bent : L2.Fun K "_law_seats_bent" "_law_seats_bent" s_law_seats_bent (fAd K ("_law_seats_bent", none)) fd_law_seats_bent := He5.fun_of F_law_seats_bent
  have B_law_seats_bent : Binds K fd_law_seats_bent ["state", "shape"] [] := L_law_seats_bent.binds fun _ _ _ _ _ _ us hl => match us, hl with | [_, _], _ => rfl
  obtain ⟨fd_law_equal_apart, F_law_equal_apart⟩ := d.def_ 30 (d := ⟨("_law_equal_apart", none), "_law_equal_apart", "_law_equal_apart", defArgs s_law_equal_apart, defBody s_law_equal_apart, defScope s_law_equal_apart, [], []⟩) rfl
  have g_law_equal_apart : mg "_law_equal_apart" = some (.ref (ga K "_law_equal_apart")) := He.glo_ok X G (d.fact 50 (f := .glo "_law_equal_apart") rfl)
  have L_law_equal_apart : L2.Fun K "_law_equal_apart" "_law_equal_apart" s_law_equal_apart (fAd K ("_law_equal_apart", none)) fd_law_equal_apart := He5.fun_of F_law_equal_apart
  have B_law_equal_apart : Binds K fd_law_equal_apart ["state", "made", "shape", "other"] [] := L_law_equal_apart.binds fun _ _ _ _ _ _ us hl => match us, hl with | [_, _, _, _], _ => rfl
  obtain ⟨fd_law, F_law⟩ := d.def_ 31 (d := ⟨("law", none), "law", "law", defArgs s_law, defBody s_law, defScope s_law, [], []⟩) rfl
  have g_law : mg "law" = some (.ref (ga K "law")) := He.glo_ok X G (d.fact 51 (f := .glo "law") rfl)
  have L_law : L2.Fun K "law" "law" s_law (fAd K ("law", none)) fd_law := He5.fun_of F_law
  have B_law : Binds K fd_law ["script"] [] := L_law.binds fun _ _ _ _ _ _ us hl => match us, hl with | [_], _ => rfl
  obtain ⟨fd_law_caught, F_law_caught⟩ := d.def_ 32 (d := ⟨("_law_caught", none), "_law_caught", "_law_caught", defArgs s_law_caught, defBody s_law_caught, defScope s_law_caught, [], []⟩) rfl
  have g_law_caught : mg "_law_caught" = some (.ref (ga K "_law_caught")) := He.glo_ok X G (d.fact 52 (f := .glo "_law_caught") rfl)
  have L_law_caught : L2.Fun K "_law_caught" "_law_caught" s_law_caught (fAd K ("_law_caught", none)) fd_law_caught := He5.fun_of F_law_caught
  have B_law_caught : Binds K fd_law_caught ["work"] [] := L_law_caught.binds fun _ _ _ _ _ _ us hl => match us, hl with | [_], _ => rfl
  obtain ⟨fd_law_told, F_law_told⟩ := d.def_ 33 (d := ⟨("_law_told", none), "_law_told", "_law_told", defArgs s_law_told, defBody s_law_told, defScope s_law_told, [], []⟩) rfl
  have g_law_told : mg "_law_told" = some (.ref (ga K "_law_told")) := He.glo_ok X G (d.fact 53 (f := .glo "_law_told") rfl)
  have L_law_told : L2.Fun K "_law_told" "_law_told" s_law_told (fAd K ("_law_told", none)) fd_law_told := He5.fun_of F_law_told
  have B_law_told : Binds K fd_law_told ["work"] [] := L_law_told.binds fun _ _ _ _ _ _ us hl => match us, hl with | [_], _ => rfl
  obtain ⟨t_LEAST_TIES_AT_LOST, k_LEAST_TIES_AT_LOST⟩ := He.int_ok X G (d.fact 15 (f := .int "LEAST_TIES_AT_LOST" 3) rfl)
  obtain ⟨t_MOST_TIES, k_MOST_TIES⟩ := He.int_ok X G (d.fact 16 (f := .int "MOST_TIES" 21) rfl)
  obtain ⟨t_MOST_VALLEYS, k_MOST_VALLEYS⟩ := He.int_ok X G (d.fact 17 (f := .int "MOST_VALLEYS" 12) rfl)
  have m0 := c.more
  obtain ⟨q0, m1⟩ := b2 m0
  obtain ⟨q1, m2⟩ := b2 m1
  obtain ⟨q2, m3⟩ := b2 m2
  obtain ⟨q3, m4⟩ := b2 m3
  obtain ⟨q4, m5⟩ := b2 m4
  obtain ⟨q5, m6⟩ := b2 m5
  have E_BadSeats := errFB_ok q0
  have E_BadTies := errFB_ok q1
  have C_Tree := clsFB_ok q2
  have M_Tree := mkB_ok q3
  have Q_Tree := eqOB_ok q4
  have NF_Tree := nfB_ok q5
  have hap : apartB K tfs = true := m6
  have T : Txt K mg (csK K) ⟨t_LEAST_TIES_AT_LOST, t_MOST_TIES, t_MOST_VALLEYS⟩ := {
    n_abs := He.free_ok X G (d.fact 0 (f := .free "abs") rfl)
    n_all := He.free_ok X G (d.fact 1 (f := .free "all") rfl)
    n_bool := He.free_ok X G (d.fact 2 (f := .free "bool") rfl)
    n_enumerate := He.free_ok X G (d.fact 3 (f := .free "enumerate") rfl)
    n_int := He.free_ok X G (d.fact 4 (f := .free "int") rfl)
    n_isinstance := He.free_ok X G (d.fact 5 (f := .free "isinstance") rfl)
    n_len := He.free_ok X G (d.fact 6 (f := .free "len") rfl)
    n_list := He.free_ok X G (d.fact 7 (f := .free "list") rfl)
    n_max := He.free_ok X G (d.fact 8 (f := .free "max") rfl)
    n_min := He.free_ok X G (d.fact 9 (f := .free "min") rfl)
    n_range := He.free_ok X G (d.fact 10 (f := .free "range") rfl)
    n_repr := He.free_ok X G (d.fact 11 (f := .free "repr") rfl)
    n_sorted := He.free_ok X G (d.fact 12 (f := .free "sorted") rfl)
    n_tuple := He.free_ok X G (d.fact 13 (f := .free "tuple") rfl)
    n_zip := He.free_ok X G (d.fact 14 (f := .free "zip") rfl)
    k_LEAST_TIES_AT_LOST := ⟨trivial, k_LEAST_TIES_AT_LOST⟩
    k_MOST_TIES := ⟨trivial, k_MOST_TIES⟩
    k_MOST_VALLEYS := ⟨trivial, k_MOST_VALLEYS⟩
    g_BadSeats := He.glo_ok X G (d.fact 18 (f := .glo "BadSeats") rfl)
    g_BadTies := He.glo_ok X G (d.fact 19 (f := .glo "BadTies") rfl)
    g_FoundError := He.glo_ok X G (d.fact 20 (f := .glo "FoundError") rfl)
    g_Tree := He.glo_ok X G (d.fact 21 (f := .glo "Tree") rfl)
    x_BadSeats := E_BadSeats.x
    e_BadSeats := E_BadSeats.e
    b_BadSeats := E_BadSeats.b
    t_BadSeats := E_BadSeats.t
    r_BadSeats := E_BadSeats.r
    i_BadSeats := E_BadSeats.i
    v_BadSeats := E_BadSeats.v
    x_BadTies := E_BadTies.x
    e_BadTies := E_BadTies.e
    b_BadTies := E_BadTies.b
    t_BadTies := E_BadTies.t
    r_BadTies := E_BadTies.r
    i_BadTies := E_BadTies.i
    v_BadTies := E_BadTies.v
    nf_Tree := NF_Tree
    ic_Tree := C_Tree.ic
    no_Tree := C_Tree.no
    i_Tree := C_Tree.i
    na_Tree_ties := C_Tree.na "ties" (by simp)
    na_Tree_seats := C_Tree.na "seats" (by simp)
  }
  have e := hfa.symm.trans g_law
  cases e
  refine ⟨tfs.map (fun p => cT K p.1), fd_law, spLaw K (TTof K tfs), ⟨fun p hp => ?_, fun p hp => ?_, fun p hp => ?_⟩, fun base KI GI TB => ?_, fun s u => .of_eq ?_, fun H a ns hl _ hH hS => ⟨a, ns, rfl, hS, hl, tabs_of hH, fun _ => rfl⟩⟩
  · obtain ⟨r, hr, rfl⟩ := List.mem_map.mp hp
    exact c.empty r.1 (List.mem_map.mpr ⟨r, hr, rfl⟩)
  · obtain ⟨r, hr, rfl⟩ := List.mem_map.mp hp
    exact PySem.W.codeHd_of_K X (c.hd r.1 (List.mem_map.mpr ⟨r, hr, rfl⟩))
  · obtain ⟨r, hr, rfl⟩ := List.mem_map.mp hp
    exact c.out r.1 (List.mem_map.mpr ⟨r, hr, rfl⟩)
  · have c_is_number := ok_is_number (P := PySem.Challenge.rw_oncefound_k10_trees_made_or_refused.prog) (w := w) (base := base) (TT := TTof K tfs) T ⟨_, _, L_is_number, g_is_number, L_is_number.kp, B_is_number⟩
    have c_law_is_whole := ok_law_is_whole (P := PySem.Challenge.rw_oncefound_k10_trees_made_or_refused.prog) (w := w) (base := base) (TT := TTof K tfs) T ⟨_, _, L_law_is_whole, g_law_is_whole, L_law_is_whole.kp, B_law_is_whole⟩
    have c_law_less := ok_law_less (P := PySem.Challenge.rw_oncefound_k10_trees_made_or_refused.prog) (w := w) (base := base) (TT := TTof K tfs) T ⟨_, _, L_law_less, g_law_less, L_law_less.kp, B_law_less⟩
    have c_law_put := ok_law_put (P := PySem.Challenge.rw_oncefound_k10_trees_made_or_refused.prog) (w := w) (base := base) (TT := TTof K tfs) T ⟨_, _, L_law_put, g_law_put, L_law_put.kp, B_law_put⟩
    have c_law_draw := ok_law_draw (P := PySem.Challenge.rw_oncefound_k10_trees_made_or_refused.prog) (w := w) (base := base) (TT := TTof K tfs) T ⟨_, _, L_law_draw, g_law_draw, L_law_draw.kp, B_law_draw⟩
    have c_law_begun := ok_law_begun (P := PySem.Challenge.rw_oncefound_k10_trees_made_or_refused.prog) (w := w) (base := base) T ⟨_, _, L_law_begun, g_law_begun, L_law_begun.kp, B_law_begun⟩
    have c_is_rising := ok_is_rising (P := PySem.Challenge.rw_oncefound_k10_trees_made_or_refused.prog) (w := w) (base := base) (TT := TTof K tfs) T ⟨_, _, L_is_rising, g_is_rising, L_is_rising.kp, B_is_rising⟩
    have c_ties_at := ok_ties_at (P := PySem.Challenge.rw_oncefound_k10_trees_made_or_refused.prog) (w := w) (base := base) (TT := TTof K tfs) T ⟨_, _, L_ties_at, g_ties_at, L_ties_at.kp, B_ties_at⟩
    have c_law_normal := ok_law_normal (P := PySem.Challenge.rw_oncefound_k10_trees_made_or_refused.prog) (w := w) (base := base) (TT := TTof K tfs) T ⟨_, _, L_law_normal, g_law_normal, L_law_normal.kp, B_law_normal⟩
    have c_law_renumbered := ok_law_renumbered (P := PySem.Challenge.rw_oncefound_k10_trees_made_or_refused.prog) (w := w) (base := base) (TT := TTof K tfs) T ⟨_, _, L_law_renumbered, g_law_renumbered, L_law_renumbered.kp, B_law_renumbered⟩
    have c_Tree_eq := ok_Tree_eq (P := PySem.Challenge.rw_oncefound_k10_trees_made_or_refused.prog) (w := w) (base := base) (TT := TTof K tfs) T ⟨_, _, L_Tree_eq, Q_Tree, B_Tree_eq⟩
    have c_law_joins := ok_law_joins (P := PySem.Challenge.rw_oncefound_k10_trees_made_or_refused.prog) (w := w) (base := base) (TT := TTof K tfs) T ⟨_, _, L_law_joins, g_law_joins, L_law_joins.kp, B_law_joins⟩
    have c_is_between := ok_is_between (P := PySem.Challenge.rw_oncefound_k10_trees_made_or_refused.prog) (w := w) (base := base) (TT := TTof K tfs) T ⟨_, _, L_is_between, g_is_between, L_is_between.kp, B_is_between⟩ c_is_number
    have c_law_is_below := ok_law_is_below (P := PySem.Challenge.rw_oncefound_k10_trees_made_or_refused.prog) (w := w) (base := base) (TT := TTof K tfs) T ⟨_, _, L_law_is_below, g_law_is_below, L_law_is_below.kp, B_law_is_below⟩ c_law_is_whole
    have c_law_pick := ok_law_pick (P := PySem.Challenge.rw_oncefound_k10_trees_made_or_refused.prog) (w := w) (base := base) (TT := TTof K tfs) T ⟨_, _, L_law_pick, g_law_pick, L_law_pick.kp, B_law_pick⟩ c_law_draw
    have c_law_mixed := ok_law_mixed (P := PySem.Challenge.rw_oncefound_k10_trees_made_or_refused.prog) (w := w) (base := base) (TT := TTof K tfs) T ⟨_, _, L_law_mixed, g_law_mixed, L_law_mixed.kp, B_law_mixed⟩ c_law_draw
    have c_steps_to := ok_steps_to (P := PySem.Challenge.rw_oncefound_k10_trees_made_or_refused.prog) (w := w) (base := base) (TT := TTof K tfs) T ⟨_, _, L_steps_to, g_steps_to, L_steps_to.kp, B_steps_to⟩ c_ties_at
    have c_law_odd := ok_law_odd (P := PySem.Challenge.rw_oncefound_k10_trees_made_or_refused.prog) (w := w) (base := base) (TT := TTof K tfs) T ⟨_, _, L_law_odd, g_law_odd, L_law_odd.kp, B_law_odd⟩ c_law_pick
    have c_is_lot := ok_is_lot (P := PySem.Challenge.rw_oncefound_k10_trees_made_or_refused.prog) (w := w) (base := base) (TT := TTof K tfs) T ⟨_, _, L_is_lot, g_is_lot, L_is_lot.kp, B_is_lot⟩ c_is_between c_is_rising
    have c_are_seats := ok_are_seats (P := PySem.Challenge.rw_oncefound_k10_trees_made_or_refused.prog) (w := w) (base := base) (TT := TTof K tfs) T ⟨_, _, L_are_seats, g_are_seats, L_are_seats.kp, B_are_seats⟩ c_is_between c_ties_at
    have c_law_some_partings := ok_law_some_partings (P := PySem.Challenge.rw_oncefound_k10_trees_made_or_refused.prog) (w := w) (base := base) (TT := TTof K tfs) T ⟨_, _, L_law_some_partings, g_law_some_partings, L_law_some_partings.kp, B_law_some_partings⟩ c_law_pick c_law_draw
    have c_law_shuffled := ok_law_shuffled (P := PySem.Challenge.rw_oncefound_k10_trees_made_or_refused.prog) (w := w) (base := base) (TT := TTof K tfs) T ⟨_, _, L_law_shuffled, g_law_shuffled, L_law_shuffled.kp, B_law_shuffled⟩ c_law_renumbered c_law_mixed
    have c_law_are_ties := ok_law_are_ties (P := PySem.Challenge.rw_oncefound_k10_trees_made_or_refused.prog) (w := w) (base := base) (TT := TTof K tfs) T ⟨_, _, L_law_are_ties, g_law_are_ties, L_law_are_ties.kp, B_law_are_ties⟩ c_law_is_below c_law_joins
    have c_law_are_seats := ok_law_are_seats (P := PySem.Challenge.rw_oncefound_k10_trees_made_or_refused.prog) (w := w) (base := base) (TT := TTof K tfs) T ⟨_, _, L_law_are_seats, g_law_are_seats, L_law_are_seats.kp, B_law_are_seats⟩ c_law_is_below
    have c_are_ties := ok_are_ties (P := PySem.Challenge.rw_oncefound_k10_trees_made_or_refused.prog) (w := w) (base := base) (TT := TTof K tfs) T ⟨_, _, L_are_ties, g_are_ties, L_are_ties.kp, B_are_ties⟩ c_is_lot c_is_rising c_steps_to
    have c_law_swelled := ok_law_swelled (P := PySem.Challenge.rw_oncefound_k10_trees_made_or_refused.prog) (w := w) (base := base) (TT := TTof K tfs) T ⟨_, _, L_law_swelled, g_law_swelled, L_law_swelled.kp, B_law_swelled⟩ c_law_draw c_law_pick c_law_odd c_law_mixed c_law_less c_law_put
    have c_law_shape := ok_law_shape (P := PySem.Challenge.rw_oncefound_k10_trees_made_or_refused.prog) (w := w) (base := base) (TT := TTof K tfs) T ⟨_, _, L_law_shape, g_law_shape, L_law_shape.kp, B_law_shape⟩ c_law_shuffled c_law_normal c_law_some_partings
    have c_law_seats_bent := ok_law_seats_bent (P := PySem.Challenge.rw_oncefound_k10_trees_made_or_refused.prog) (w := w) (base := base) (TT := TTof K tfs) T ⟨_, _, L_law_seats_bent, g_law_seats_bent, L_law_seats_bent.kp, B_law_seats_bent⟩ c_law_draw c_law_odd c_law_less c_law_put c_law_pick
    have c_Tree_init := ok_Tree_init (P := PySem.Challenge.rw_oncefound_k10_trees_made_or_refused.prog) (w := w) (base := base) (TT := TTof K tfs) T (init2_of L_Tree_init M_Tree B_Tree_init fun s us ws h1 h2 => match us, ws, h1, h2 with | [_], [_, _], _, _ => .of_eq (by obtain ⟨_, _, _, _, _, _, _, _, _, e, _⟩ := L_Tree_init.ex; subst e; rfl)) c_are_ties c_are_seats
    have c_law_grown := ok_law_grown (P := PySem.Challenge.rw_oncefound_k10_trees_made_or_refused.prog) (w := w) (base := base) (TT := TTof K tfs) T ⟨_, _, L_law_grown, g_law_grown, L_law_grown.kp, B_law_grown⟩ c_Tree_init
    have c_law_equal_apart := ok_law_equal_apart (P := PySem.Challenge.rw_oncefound_k10_trees_made_or_refused.prog) (w := w) (base := base) (TT := TTof K tfs) T ⟨_, _, L_law_equal_apart, g_law_equal_apart, L_law_equal_apart.kp, B_law_equal_apart⟩ c_law_mixed c_law_grown c_Tree_init c_Tree_eq
    have c_law := ok_law (P := PySem.Challenge.rw_oncefound_k10_trees_made_or_refused.prog) (w := w) (base := base) (TT := TTof K tfs) T (funC_of F_law) c_law_begun c_law_shape c_law_draw c_law_swelled c_law_seats_bent c_law_are_ties c_law_are_seats c_law_equal_apart c_Tree_init ⟨_, _, L_law_caught, g_law_caught, L_law_caught.kp, B_law_caught⟩ (makesAt_of hap TB (p := (("law", none), "law.<locals>.<lambda>")) (by simp [tfs])) ⟨_, _, L_law_told, g_law_told, L_law_told.kp, B_law_told⟩
    exact c_law.mono (by decide)
  · obtain ⟨oc, od, dV, kV, doc, pm, an, cdv, ct, osl, e, lk, hcd, hD, _⟩ := F_law.ex
    rcases hD with ⟨_, e2⟩ | ⟨e2, _⟩
    · subst e e2
      rfl
    · exact absurd rfl e2
end Lw
open PySem PySem.W PySem.Calls PyProof.Rows
set_option maxRecDepth 100000 in
set_option maxHeartbeats 0 in
theorem PySem.Challenge.cw_oncefound_k10_trees_made_or_refused_holds : PySem.Challenge.rw_oncefound_k10_trees_made_or_refused.Holds := by
  w_on; o_law
  refine HandSHeadRun.head_any (r := Lw.Rw) (q := view Lw.Rw.prog [42]) (H := Lw.hk) (ob := Lw.ob) (M := 6000) (loose := Lw.loose) (d := HandSHeadRun.topDef Lw.Rw.prog 42) (kwd := []) Lw.ob_eq (by kernel_rfl) (fun s => by kernel_rfl) Lw.run (by kernel_rfl) (by kernel_rfl) (by kernel_rfl) (by rfl) (by first | assumption | decide +kernel) (by decide +kernel) ⟨rfl, rfl, rfl, rfl, rfl, by decide +kernel⟩ ?hw ?hc
  case hw => w_witness2
  case hc =>
    refine DL.walkGE (l := PySem.Challenge.rw_oncefound_k10_trees_made_or_refused) (n := 63) (k := 16) (x := "script") (CX := fun _ => L2.CX0) rfl (by decide) (by kernel_rfl) ⟨rfl, by decide, by decide⟩ ?F (fun _ _ _ _ _ z => z)
    intro w mg fa h Y G hmg0
    obtain ⟨K, KX, c⟩ := Y
    have hmg : mg ("law" : PySem.Str) = some (.ref fa) := by
      have e : (HandSHeadRun.topDef Lw.Rw.prog 42).name = ("law" : PySem.Str) := by kernel_rfl
      rw [← e]
      exact hmg0
    exact ⟨K, KX, Lw.facts KX G hmg c⟩
