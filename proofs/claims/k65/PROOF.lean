import PyProof.Rows.All
import Wide.All
import OpenK.AllK
import Wide.FinOn
import HandS.Base
import HandS.Call
import HandS.List
import HandS.Comp
import HandS.Dict
import HandS.Iter
import HandS.Text
import HandS.Words
import HandS.Exc
import HandS.ExcOwn
import HandS.Lambda
import HandS.Evl
import HandS.ExcIs
import HandS.TupAny
import HandS.TupMul
import HandS.IsInst
import PyProof.Rows.NestShow
import HandS.Zip
import KE.KExcIs
import HandS.WordsExc
import HandS.EndTab
import HandS.MakeKwOnly
import KE.KDictZip
import KE.KDictItemsList
import HandS.ExcValue
import HandS.GenList
import HandS.HeadWalk
import HandS.HeadHook4
import HandS.HeadNt
import HandS.Head2
import HandS.HeadEnd
import KE.GoesEnum
import PyProof.EnumMake
import HandS.ExcInit
import HandS.ExcField
import HandS.CallLocal
import HandS.Style
import HandS.SortInts
import PyProof.NeKinds
import HandS.TupSets
import HandS.Set
import HandS.SetBool
import HandS.Strs
import HandS.SetFor
import KE.SortData
import PyProof.TupleOfSeq
import KE.KSortTup
import KE.KSortAsk
import HandS.TupLe
import KE.DataMinMax
import HandS.Conv
import KE.KDictSum
import PyProof.DictMoreH
import HandS.SetKeys
import HandS.Deep
import PyProof.Rows.SeqMore
import HandS.WordsDict
import HandS.SortKw
import HandS.DictComp
import HandS.More
import HandS.OwnEq
import HandS.Head3
import PySem.Challenge.RW_oncefound_k65_all_trees_of_few_valleys
set_option Elab.async false
set_option linter.all false
set_option maxRecDepth 100000
set_option maxHeartbeats 2222222
/-! data, and what holds it in the heap -/
namespace DL
open L2 PySem PySem.Spec PyProof.Rows
open Evl (Ex ex_l ex_t sz_of)

structure FV where
  q : Str
  ps : Arguments
  body : Expr
  scope : Scope
def LamV (F : FV) (c f : Addr) : HO := .ext fun h => ∃ pm ctv, h.get? f = some (PySem.W.kla_obj "<lambda>" F.q F.ps F.body F.scope [] pm c ctv)
inductive D where
  | non | bl (b : Bool) | int (i : Int) | str (x : Str)
  | lst (xs : List D) | tup (xs : List D)
  | dic (ks : List Key) (ds : List D)
  | dit (ks : List (List Key)) (ds : List D)
  | ins (C : Addr) (ns : List Str) (ds : List D)
  | exc (C : Addr) (ns : List Str) (ds : List D)
  | fnv (f : Addr)
  | lam (F : FV)

/-- an exception object that was caught -/
def ExT (C : Addr) (d : Option Addr) (a : Addr) : HO := .ext fun h => ∃ (oe : Obj) (vs : Array Value), h.get? a = some oe ∧ Zc (.ref C) d oe ∧ oe.data = .fields vs

/-- an own class is no built-in one -/
def NoTy (K : PySem.W.Frag) (C : Addr) : Prop := ∀ t ∈ ["int", "bool", "str", "tuple", "list", "dict"], PySem.W.kitOne K (.ref C) (.type t) = some false
/-- what the class at C must say, so that its instances may be asked -/
structure InC (K : PySem.W.Frag) (C : Addr) : Prop where
  cl : Cls K C
  ha : PySem.W.findIn K (.ref C) "__class__" = some (some (.builtin "object.__class__"))
  hn : PySem.W.specialIn K (.builtin "object.__class__") "__get__" = some (some (.builtin "getset_descriptor.__get__"))
  ht : PySem.W.takesIn K (.builtin "object.__class__") = some true
  hm : PySem.W.mroIn K C (.type "object") = some true
  nt : NoTy K C

mutual
inductive Dn (K : PySem.W.Frag) (H : Hp) : V → D → Prop
  | non : Dn K H .non .non
  | bl (b : Bool) : Dn K H (.bl b) (.bl b)
  | int (i : Int) : Dn K H (.int i) (.int i)
  | str (x : Str) : Dn K H (.str x) (.str x)
  | fnv (f : Addr) : Dn K H (.ref f) (.fnv f)
  | lam {f c : Addr} {F : FV} : H f = some (LamV F c f) → H c = some (LamX.CodeO c F.q) → Dn K H (.ref f) (.lam F)
  | lst {a : Addr} {xs : List V} {ds : List D} : SqL K H a xs → DnA K H xs ds → Dn K H (.ref a) (.lst ds)
  | tup {a : Addr} {xs : List V} {ds : List D} (sq : SqT K H a xs) (da : DnA K H xs ds) (raw : H a = some (.tup xs) := by first | exact upd_same | assumption) : Dn K H (.ref a) (.tup ds)
  | dic {a : Addr} {kvs : List (Key × V)} {ks : List Key} {ds : List D} : H a = some (.dK kvs) → kvs.map (·.1) = ks → DnA K H (kvs.map (·.2)) ds → Dn K H (.ref a) (.dic ks ds)
  | dit {a : Addr} {kvs : List (List Key × V)} {ks : List (List Key)} {ds : List D} : H a = some (.dT kvs) → kvs.map (·.1) = ks → DnA K H (kvs.map (·.2)) ds → Dn K H (.ref a) (.dit ks ds)
  | ins {a C dx : Addr} {fs : List (Str × V)} {ns : List Str} {ds : List D} : InC K C → H a = some (.ins C dx fs) → fs.map (·.1) = ns → DnA K H (fs.map (·.2)) ds → Dn K H (.ref a) (.ins C ns ds)
  | exc {a C : Addr} {d : Option Addr} {fs : List (Str × V)} {ns : List Str} {ds : List D} : ExcC K C → NoTy K C → H a = some (ExT C d a) → (d = none ∧ fs = [] ∨ ∃ dd, d = some dd ∧ fs ≠ [] ∧ H dd = some (.xd fs)) → fs.map (·.1) = ns → DnA K H (fs.map (·.2)) ds → Dn K H (.ref a) (.exc C ns ds)
inductive DnA (K : PySem.W.Frag) (H : Hp) : List V → List D → Prop
  | nil : DnA K H [] []
  | cons {v : V} {vs : List V} {d : D} {ds : List D} : Dn K H v d → DnA K H vs ds → DnA K H (v :: vs) (d :: ds)
end

section
variable {K : PySem.W.Frag} {H H' : Hp}
mutual
theorem Dn.mono (e : Ex H H') : ∀ (d : D) {v : V}, Dn K H v d → Dn K H' v d
  | .non, _, h => by cases h; exact .non
  | .bl b, _, h => by cases h; exact .bl b
  | .int i, _, h => by cases h; exact .int i
  | .str x, _, h => by cases h; exact .str x
  | .fnv f, _, h => by cases h; exact .fnv f
  | .lam F, _, h => by
    cases h with
    | lam h1 h2 => exact .lam (e _ _ h1) (e _ _ h2)
  | .lst ds, _, h => by
    cases h with
    | lst h1 h2 => exact .lst (ex_l e h1) (DnA.mono e ds h2)
  | .tup ds, _, h => by
    cases h with
    | tup h1 h2 hr => exact .tup (ex_t e h1) (DnA.mono e ds h2) (e _ _ hr)
  | .dic ks ds, _, h => by
    cases h with
    | dic h1 h2 h3 => exact .dic (e _ _ h1) h2 (DnA.mono e ds h3)
  | .dit ks ds, _, h => by
    cases h with
    | dit h1 h2 h3 => exact .dit (e _ _ h1) h2 (DnA.mono e ds h3)
  | .ins C ns ds, _, h => by
    cases h with
    | ins hc h1 h2 h3 => exact .ins hc (e _ _ h1) h2 (DnA.mono e ds h3)
  | .exc C ns ds, _, h => by
    cases h with
    | exc hc ht h1 h0 h2 h3 =>
      refine .exc hc ht (e _ _ h1) ?_ h2 (DnA.mono e ds h3)
      rcases h0 with h0 | ⟨dd, h0, hne, h4⟩
      · exact .inl h0
      · exact .inr ⟨dd, h0, hne, e _ _ h4⟩
theorem DnA.mono (e : Ex H H') : ∀ (ds : List D) {vs : List V}, DnA K H vs ds → DnA K H' vs ds
  | [], _, h => by cases h; exact .nil
  | d :: ds, _, h => by
    cases h with
    | cons h1 h2 => exact .cons (Dn.mono e d h1) (DnA.mono e ds h2)
end
theorem Dn.up (e : Ex H H') {v : V} {d : D} (h : Dn K H v d) : Dn K H' v d := Dn.mono e d h
theorem DnA.up (e : Ex H H') {vs : List V} {ds : List D} (h : DnA K H vs ds) : DnA K H' vs ds := DnA.mono e ds h
theorem DnA.len : ∀ {vs : List V} {ds : List D}, DnA K H vs ds → vs.length = ds.length
  | [], _, h => by cases h; rfl
  | _ :: _, _, h => by
    cases h with
    | cons h1 h2 => rw [List.length_cons, List.length_cons, DnA.len h2]
theorem DnA.get : ∀ {vs : List V} {ds : List D} {i : Nat} {d : D}, DnA K H vs ds → ds[i]? = some d → ∃ v, vs[i]? = some v ∧ Dn K H v d
  | [], _, i, d, h, e => by cases h; simp at e
  | v :: vs, _, 0, d, h, e => by
    cases h with
    | cons h1 h2 =>
      simp at e
      subst e
      exact ⟨v, rfl, h1⟩
  | v :: vs, _, i + 1, d, h, e => by
    cases h with
    | cons h1 h2 =>
      obtain ⟨w, e1, e2⟩ := DnA.get (i := i) h2 (by simpa using e)
      exact ⟨w, by simpa using e1, e2⟩
theorem DnA.getV : ∀ {vs : List V} {ds : List D} {i : Nat} {v : V}, DnA K H vs ds → vs[i]? = some v → ∃ d, ds[i]? = some d ∧ Dn K H v d
  | [], _, i, d, h, e => by simp at e
  | v :: vs, _, 0, d, h, e => by
    cases h with
    | cons h1 h2 =>
      simp at e
      subst e
      exact ⟨_, rfl, h1⟩
  | v :: vs, _, i + 1, d, h, e => by
    cases h with
    | cons h1 h2 =>
      obtain ⟨w, e1, e2⟩ := DnA.getV (i := i) h2 (by simpa using e)
      exact ⟨w, by simpa using e1, e2⟩
theorem DnA.app : ∀ {vs us : List V} {ds es : List D}, DnA K H vs ds → DnA K H us es → DnA K H (vs ++ us) (ds ++ es)
  | [], _, _, _, h, g => by cases h; exact g
  | _ :: _, _, _, _, h, g => by
    cases h with
    | cons h1 h2 => exact .cons h1 (DnA.app h2 g)
theorem DnA.take : ∀ {vs : List V} {ds : List D} (n : Nat), DnA K H vs ds → DnA K H (vs.take n) (ds.take n)
  | _, _, 0, _ => by simp; exact .nil
  | [], _, n + 1, h => by cases h; exact .nil
  | _ :: _, _, n + 1, h => by
    cases h with
    | cons h1 h2 => exact .cons h1 (DnA.take n h2)
theorem DnA.drop : ∀ {vs : List V} {ds : List D} (n : Nat), DnA K H vs ds → DnA K H (vs.drop n) (ds.drop n)
  | _, _, 0, h => by simpa using h
  | [], _, n + 1, h => by cases h; exact .nil
  | _ :: _, _, n + 1, h => by
    cases h with
    | cons h1 h2 => exact DnA.drop n h2
theorem DnA.one {v : V} {d : D} (h : Dn K H v d) : DnA K H [v] [d] := .cons h .nil
theorem DnA.ints : ∀ (ns : List Int), DnA K H (ns.map V.int) (ns.map D.int)
  | [] => .nil
  | n :: ns => .cons (.int n) (DnA.ints ns)
end

/-! ### the source of draws, the tables of code, what is frozen -/
abbrev Tb := List (Addr × Str)
/-- the two objects that a draw changes -/
structure SA where
  a : Addr
  l : Addr
  c : Addr
  cs : List Int
abbrev LIM : Nat := 2 ^ 40
def kLarge : Key := .inr "large"
def kCells : Key := .inr "cells"
def kLeft : Key := .inr "left"
def kTurn : Key := .inr "turn"
/-- the source of draws stands; at most n draws were made -/
def StOk (K : PySem.W.Frag) (S : SA) (Hb H : Hp) (n : Nat) : Prop :=
  Hb S.a = none ∧ Hb S.l = none ∧ ∃ (ls cs : List Int) (m : Int) (t : Nat), S.c ≠ S.l ∧ S.c ≠ S.a ∧ S.a ≠ S.l ∧
    H S.a = some (.dK [(kLarge, .ref S.l), (kCells, .ref S.c), (kLeft, .int m), (kTurn, .int t)]) ∧ H S.l = some (.lst (ls.map V.int)) ∧ Hb S.c = some (.lst (cs.map V.int)) ∧
    (∀ x ∈ ls, 0 ≤ x) ∧ (∀ x ∈ cs, 0 ≤ x) ∧ 0 ≤ m ∧ t ≤ n ∧ ls.length ≤ 63 ∧ cs.length ≤ 63 ∧ cs = S.cs

/-- nothing lies at p, or a table of code -/
def Fresh (H : Hp) (p : Addr) : Prop := ∀ o, H p = some o → ∃ ps, o = .tbl ps
theorem fresh_none {H : Hp} {p : Addr} (h : H p = none) : Fresh H p := fun o e => by rw [h] at e; cases e
/-- an object that is no table of code -/
def Obn (H : Hp) (p : Addr) : Prop := ∃ o, H p = some o ∧ ∀ ps, o ≠ .tbl ps
theorem Fresh.ne {H : Hp} {p b : Addr} {o : HO} (f : Fresh H p) (h : H b = some o) (ho : ∀ ps, o ≠ .tbl ps) : b ≠ p := fun e => by
  subst e
  obtain ⟨ps, z⟩ := f _ h
  exact ho ps z
theorem Obn.ne {H : Hp} {p b : Addr} (w : Obn H b) (f : Fresh H p) : p ≠ b := by
  obtain ⟨o, h, ho⟩ := w
  exact (f.ne h ho).symm
theorem Obn.upd {H : Hp} {p b : Addr} {o : HO} (w : Obn H b) (ho : ∀ ps, o ≠ .tbl ps) : Obn (L2.upd H p o) b := by
  obtain ⟨u, h, hu⟩ := w
  by_cases e : b = p
  · exact ⟨o, by rw [e, upd_same], ho⟩
  · exact ⟨u, by rw [upd_ne e]; exact h, hu⟩
structure World (T : Tb) (S : SA) (Hb H : Hp) : Prop where
  ex : Ex Hb H
  tabs : LamX.Tabs T H
  tb : ∀ p ∈ T, Hb p.1 = none
  sa : Obn H S.a
  sl : Obn H S.l
  sc : Obn H S.c
  nt : ∀ b ps, Hb b ≠ some (.tbl ps)
theorem nt_upd {Hb : Hp} {p : Addr} {o : HO} (h : ∀ b ps, Hb b ≠ some (.tbl ps)) (ho : ∀ ps, o ≠ .tbl ps) : ∀ b ps, upd Hb p o b ≠ some (.tbl ps) := fun b ps z => by
  by_cases e : b = p
  · rw [e, upd_same] at z
    exact ho ps (Option.some.inj z)
  · rw [upd_ne e] at z
    exact h b ps z
/-- a step of the run: what is frozen stays and may grow, the source of draws stands, what is no one's business stays -/
structure Stp (K : PySem.W.Frag) (T : Tb) (S : SA) (Hb H : Hp) (n : Nat) (Hb' H' : Hp) (n' : Nat) : Prop where
  ex : Ex Hb Hb'
  wd : World T S Hb' H'
  st : StOk K S Hb H n → StOk K S Hb' H' n'
  own0 : ∀ p o, H p = some o → Hb p = none → p ≠ S.a → p ≠ S.l → (∀ ps, o ≠ .tbl ps) → H' p = some o ∧ (Hb' p = none ∨ Hb' p = some o ∧ ∃ q, o = LamX.CodeO p q)
  dm : ∀ p, Fresh H' p → Fresh H p
/-- what is no code object is not frozen by a step -/
theorem Stp.own {K : PySem.W.Frag} {T : Tb} {S : SA} {Hb H Hb' H' : Hp} {n n' : Nat} (s : Stp K T S Hb H n Hb' H' n') (p : Addr) (o : HO) (h1 : H p = some o) (h2 : Hb p = none) (h3 : p ≠ S.a) (h4 : p ≠ S.l) (h5 : ∀ ps, o ≠ .tbl ps)
    (h6 : ∀ q, o ≠ LamX.CodeO p q := by intro q z; unfold LamX.CodeO at z; cases z) : H' p = some o ∧ Hb' p = none := by
  obtain ⟨g1, g2⟩ := s.own0 p o h1 h2 h3 h4 h5
  rcases g2 with g2 | ⟨_, q, z⟩
  · exact ⟨g1, g2⟩
  · exact absurd z (h6 q)
theorem dm_upd {H : Hp} {p : Addr} {o : HO} (ho : ∀ ps, o ≠ .tbl ps) : ∀ q, Fresh (upd H p o) q → Fresh H q := fun q h u e => by
  by_cases z : q = p
  · obtain ⟨ps, y⟩ := h o (by rw [z, upd_same])
    exact (ho ps y).elim
  · exact h u (by rw [upd_ne z]; exact e)
section
variable {K : PySem.W.Frag} {T : Tb} {S : SA} {Hb H Hb1 H1 Hb2 H2 : Hp} {n n1 n2 : Nat} {p : Addr} {o : HO}
theorem Stp.refl (w : World T S Hb H) : Stp K T S Hb H n Hb H n := ⟨Ex.refl _, w, fun h => h, fun _ _ h1 h2 _ _ _ => ⟨h1, .inl h2⟩, fun _ h => h⟩
theorem Stp.trans (a : Stp K T S Hb H n Hb1 H1 n1) (b : Stp K T S Hb1 H1 n1 Hb2 H2 n2) : Stp K T S Hb H n Hb2 H2 n2 :=
  ⟨a.ex.trans b.ex, b.wd, fun h => b.st (a.st h), fun p o h1 h2 h3 h4 h5 => by
    obtain ⟨g1, g2⟩ := a.own0 p o h1 h2 h3 h4 h5
    rcases g2 with g2 | ⟨g2, q, z⟩
    · exact b.own0 p o g1 g2 h3 h4 h5
    · exact ⟨b.wd.ex _ _ (b.ex _ _ g2), .inr ⟨b.ex _ _ g2, q, z⟩⟩, fun p h => a.dm p (b.dm p h)⟩
theorem ex_upd (e : Ex Hb H) (h : H p = none) : Ex (upd Hb p o) (upd H p o) := fun b u q => by
  by_cases hb : b = p
  · subst hb; rw [upd_same] at q ⊢; exact q
  · rw [upd_ne hb] at q ⊢; exact e b u q
theorem free_of (e : Ex Hb H) (h : H p = none) : Hb p = none := Evl.fresh_back e h
theorem World.ne (w : World T S Hb H) (h : H p = none) {q : Addr × Str} (hq : q ∈ T) : q.1 ≠ p := by
  obtain ⟨ps, e, _⟩ := w.tabs q hq
  exact ne_of_none e h
theorem StOk.keep (k : ∀ b u, H b = some u → H1 b = some u) (kb : Ex Hb Hb1) (ka : Hb1 S.a = none) (kl : Hb1 S.l = none) (hn : n ≤ n1) (h : StOk K S Hb H n) : StOk K S Hb1 H1 n1 := by
  obtain ⟨_, _, ls, cs, m, t, h0, h1, h2, h3, h4, h5, h6, h7, h8, h9, h10⟩ := h
  exact ⟨ka, kl, ls, cs, m, t, h0, h1, h2, k _ _ h3, k _ _ h4, kb _ _ h5, h6, h7, h8, Nat.le_trans h9 hn, h10⟩
/-- a new object, frozen at once -/
theorem Stp.new (w : World T S Hb H) (hp : H p = none) (ho : ∀ ps, o ≠ .tbl ps := by intro _ z; cases z) : Stp K T S Hb H n (upd Hb p o) (upd H p o) n where
  ex := Ex.new (free_of w.ex hp)
  wd := ⟨ex_upd w.ex hp, fun q hq => (w.tabs q hq).ext (Ex.new hp), fun q hq => by rw [upd_ne (w.ne hp hq)]; exact w.tb q hq, w.sa.upd ho, w.sl.upd ho, w.sc.upd ho, nt_upd w.nt ho⟩
  st := fun h => by
    have ha : S.a ≠ p := by
      obtain ⟨_, _, ls, cs, m, t, _, _, _, h3, h4, _⟩ := h
      exact ne_of_none h3 hp
    have hl : S.l ≠ p := by
      obtain ⟨_, _, ls, cs, m, t, _, _, _, h3, h4, _⟩ := h
      exact ne_of_none h4 hp
    exact h.keep (Ex.new hp) (Ex.new (free_of w.ex hp)) (by rw [upd_ne ha]; exact h.1) (by rw [upd_ne hl]; exact h.2.1) (Nat.le_refl _)
  own0 := fun q u h1 h2 _ _ _ => by
    have hq : q ≠ p := ne_of_none h1 hp
    rw [upd_ne hq, upd_ne hq]
    exact ⟨h1, .inl h2⟩
  dm := dm_upd ho
/-- a new object, not frozen -/
theorem Stp.newO (w : World T S Hb H) (hp : H p = none) (ho : ∀ ps, o ≠ .tbl ps := by intro _ z; cases z) : Stp K T S Hb H n Hb (upd H p o) n where
  ex := Ex.refl _
  wd := ⟨w.ex.trans (Ex.new hp), fun q hq => (w.tabs q hq).ext (Ex.new hp), w.tb, w.sa.upd ho, w.sl.upd ho, w.sc.upd ho, w.nt⟩
  st := fun h => h.keep (Ex.new hp) (Ex.refl _) h.1 h.2.1 (Nat.le_refl _)
  own0 := fun q u h1 h2 _ _ _ => by
    have hq : q ≠ p := ne_of_none h1 hp
    rw [upd_ne hq]
    exact ⟨h1, .inl h2⟩
  dm := dm_upd ho
theorem Stp.le (w : World T S Hb H) (h : n ≤ n1) : Stp K T S Hb H n Hb H n1 := ⟨Ex.refl _, w, fun s => s.keep (fun _ _ q => q) (Ex.refl _) s.1 s.2.1 h, fun _ _ h1 h2 _ _ _ => ⟨h1, .inl h2⟩, fun _ h => h⟩
/-- an object of code is frozen -/
theorem Stp.code {q : Str} (w : World T S Hb H) (hc : H p = some (LamX.CodeO p q)) (hb : Hb p = none) (ha : H S.a ≠ some (LamX.CodeO S.a q)) (hl : H S.l ≠ some (LamX.CodeO S.l q)) : Stp K T S Hb H n (upd Hb p (LamX.CodeO p q)) H n := by
  have no : ∀ ps, LamX.CodeO p q ≠ .tbl ps := fun ps z => by
    unfold LamX.CodeO at z
    cases z
  have ex : Ex Hb (upd Hb p (LamX.CodeO p q)) := Ex.new hb
  have pa : S.a ≠ p := fun z => ha (by rw [z]; exact hc)
  have pl : S.l ≠ p := fun z => hl (by rw [z]; exact hc)
  refine ⟨ex, ⟨fun b u e => ?_, w.tabs, fun x hx => ?_, w.sa, w.sl, w.sc, nt_upd w.nt no⟩, fun h => h.keep (fun _ _ e => e) ex (by rw [upd_ne pa]; exact h.1) (by rw [upd_ne pl]; exact h.2.1) (Nat.le_refl _), fun b u e1 e2 _ _ _ => ?_, fun _ h => h⟩
  · by_cases z : b = p
    · subst z
      rw [upd_same] at e
      rw [← Option.some.inj e]
      exact hc
    · rw [upd_ne z] at e
      exact w.ex b u e
  · have z : x.1 ≠ p := fun z => by
      obtain ⟨ps, e, _⟩ := w.tabs x hx
      rw [z, hc] at e
      exact no ps (Option.some.inj e)
    rw [upd_ne z]
    exact w.tb x hx
  · by_cases z : b = p
    · subst z
      rw [hc] at e1
      rw [upd_same, ← Option.some.inj e1]
      exact ⟨hc, .inr ⟨rfl, q, rfl⟩⟩
    · rw [upd_ne z]
      exact ⟨e1, .inl e2⟩
end
end DL

/-! what a reading does to data -/
namespace DL
open L2 PySem PySem.Spec PyProof.Rows
open Evl (Ex ex_l ex_t sz_of)

/-- what a slot (or an argument) holds: nothing known, data, the source of draws, a list of one's own -/
inductive SV where
  | no | d (x : D) | st | ol (xs : List D) | me (x C : Addr) (ns : List Str) (ds : List D) | od (ks : List Key) (ds : List D) | ot (ks : List (List Key)) (ds : List D) | fv (F : FV)
/-- a list or an object of one's own -/
def isOwn : SV → Bool
  | .ol _ => true
  | .me _ _ _ _ => true
  | .od _ _ => true
  | .ot _ _ => true
  | _ => false
section
variable (K : PySem.W.Frag) (S : SA) (Hb H : Hp) (n : Nat)
def SlotOk : SV → Option V → Prop
  | .no, _ => True
  | .d x, o => ∃ v, o = some v ∧ Dn K Hb v x
  | .st, o => o = some (.ref S.a) ∧ StOk K S Hb H n
  | .ol xs, o => ∃ p vs, o = some (.ref p) ∧ H p = some (.lst vs) ∧ Hb p = none ∧ p ≠ S.a ∧ p ≠ S.l ∧ p ≠ S.c ∧ DnA K Hb vs xs
  | .me x C ns ds, o => o = some (.ref x) ∧ ∃ dx fs, H x = some (.ins C dx fs) ∧ Hb x = none ∧ x ≠ S.a ∧ x ≠ S.l ∧ x ≠ S.c ∧ fs.map (·.1) = ns ∧ DnA K Hb (fs.map (·.2)) ds
  | .od ks ds, o => ∃ p kvs, o = some (.ref p) ∧ H p = some (.dK kvs) ∧ Hb p = none ∧ p ≠ S.a ∧ p ≠ S.l ∧ p ≠ S.c ∧ kvs.map (·.1) = ks ∧ DnA K Hb (kvs.map (·.2)) ds
  | .ot ks ds, o => ∃ p kvs, o = some (.ref p) ∧ H p = some (.dT kvs) ∧ Hb p = none ∧ p ≠ S.a ∧ p ≠ S.l ∧ p ≠ S.c ∧ kvs.map (·.1) = ks ∧ DnA K Hb (kvs.map (·.2)) ds
  | .fv F, o => ∃ f c, o = some (.ref f) ∧ Hb f = some (LamV F c f) ∧ H c = some (LamX.CodeO c F.q) ∧ (∀ o, Hb c = some o → o = LamX.CodeO c F.q) ∧ c ≠ S.a ∧ c ≠ S.l
structure Slots (ρ : List SV) (σ : L2.St) : Prop where
  len : ρ.length = σ.length
  ok : ∀ (i : Nat) (s : SV), ρ[i]? = some s → ∃ o : Option V, σ[i]? = some o ∧ SlotOk K S Hb H n s o
  ap : ∀ (i j : Nat) (p : Addr) (xs ys : List D), i ≠ j → ρ[i]? = some (.ol xs) → ρ[j]? = some (.ol ys) → σ[i]? = some (some (.ref p)) → σ[j]? = some (some (.ref p)) → False
inductive Args : List SV → List V → Prop
  | nil : Args [] []
  | cons {s : SV} {v : V} {ss : List SV} {vs : List V} : SlotOk K S Hb H n s (some v) → Args ss vs → Args (s :: ss) (v :: vs)
end
abbrev DQ := D → Nat → Prop
abbrev DX := Addr → List Str → List D → Nat → Prop
abbrev DT := List SV → Nat → DQ → DX → Prop
abbrev DTA := List SV → Nat → (List SV → Nat → Prop) → DX → Prop
abbrev DTT := List SV → Nat → (Bool → Nat → Prop) → DX → Prop
abbrev DSp := List SV → Nat → DQ → DX → Prop

section
variable {K : PySem.W.Frag} {T : Tb} {S : SA} {Hb H Hb1 H1 Hb2 H2 : Hp} {n n1 n2 : Nat}
theorem SlotOk.step {s : SV} {o : Option V} (a : Stp K T S Hb H n Hb1 H1 n1) (h : SlotOk K S Hb H n s o) : SlotOk K S Hb1 H1 n1 s o := by
  cases s with
  | no => trivial
  | d x =>
    obtain ⟨v, e, h⟩ := h
    exact ⟨v, e, h.up a.ex⟩
  | st => exact ⟨h.1, a.st h.2⟩
  | ol xs =>
    obtain ⟨p, vs, e, h1, h2, h3, h4, hc, h5⟩ := h
    obtain ⟨g1, g2⟩ := a.own p _ h1 h2 h3 h4 (fun ps z => by cases z)
    exact ⟨p, vs, e, g1, g2, h3, h4, hc, h5.up a.ex⟩
  | me x C ns ds =>
    obtain ⟨e, dx, fs, h1, h2, h3, h4, hc, h5, h6⟩ := h
    obtain ⟨g1, g2⟩ := a.own x _ h1 h2 h3 h4 (fun ps z => by cases z)
    exact ⟨e, dx, fs, g1, g2, h3, h4, hc, h5, h6.up a.ex⟩
  | od ks ds =>
    obtain ⟨p, kvs, e, h1, h2, h3, h4, hc, h5, h6⟩ := h
    obtain ⟨g1, g2⟩ := a.own p _ h1 h2 h3 h4 (fun ps z => by cases z)
    exact ⟨p, kvs, e, g1, g2, h3, h4, hc, h5, h6.up a.ex⟩
  | ot ks ds =>
    obtain ⟨p, kvs, e, h1, h2, h3, h4, hc, h5, h6⟩ := h
    obtain ⟨g1, g2⟩ := a.own p _ h1 h2 h3 h4 (fun ps z => by cases z)
    exact ⟨p, kvs, e, g1, g2, h3, h4, hc, h5, h6.up a.ex⟩
  | fv F =>
    obtain ⟨f, c, e, h1, h2, h2b, h3, h4⟩ := h
    have no : ∀ ps, LamX.CodeO c F.q ≠ .tbl ps := fun ps z => by
      unfold LamX.CodeO at z
      cases z
    cases hc : Hb c with
    | none =>
      obtain ⟨g1, g2⟩ := a.own0 c _ h2 hc h3 h4 no
      exact ⟨f, c, e, a.ex _ _ h1, g1, (fun o z => by
        rcases g2 with g2 | ⟨g2, _⟩
        · rw [g2] at z; cases z
        · rw [g2] at z; exact (Option.some.inj z).symm), h3, h4⟩
    | some o =>
      have z := h2b o hc
      subst z
      have g := a.ex _ _ hc
      exact ⟨f, c, e, a.ex _ _ h1, a.wd.ex _ _ g, (fun o z => by rw [g] at z; exact (Option.some.inj z).symm), h3, h4⟩
theorem Slots.step {ρ : List SV} {σ : L2.St} (a : Stp K T S Hb H n Hb1 H1 n1) (h : Slots K S Hb H n ρ σ) : Slots K S Hb1 H1 n1 ρ σ :=
  ⟨h.len, fun i s e => let ⟨o, e1, e2⟩ := h.ok i s e; ⟨o, e1, e2.step a⟩, h.ap⟩
theorem Args.step {ss : List SV} {vs : List V} (a : Stp K T S Hb H n Hb1 H1 n1) (h : Args K S Hb H n ss vs) : Args K S Hb1 H1 n1 ss vs := by
  induction h with
  | nil => exact .nil
  | cons h _ ih => exact .cons (h.step a) ih
theorem Args.len {ss : List SV} {vs : List V} (h : Args K S Hb H n ss vs) : ss.length = vs.length := by
  induction h with
  | nil => rfl
  | cons _ _ ih => simp [ih]
end

/-- what is wanted of a value, of a Bool, of arguments, of an exception, behind a step from here -/
def VOk (K : PySem.W.Frag) (T : Tb) (S : SA) (Hb H : Hp) (n : Nat) (P : DQ) (Q : VK) : Prop :=
  ∀ d v n' Hb' H', Stp K T S Hb H n Hb' H' n' → Dn K Hb' v d → P d n' → Q v H'
def BOk (K : PySem.W.Frag) (T : Tb) (S : SA) (Hb H : Hp) (n : Nat) (P : Bool → Nat → Prop) (Q : Bool → Hp → Prop) : Prop :=
  ∀ b n' Hb' H', Stp K T S Hb H n Hb' H' n' → P b n' → Q b H'
def AOk (K : PySem.W.Frag) (T : Tb) (S : SA) (Hb H : Hp) (n : Nat) (P : List SV → Nat → Prop) (Q : List V → Hp → Prop) : Prop :=
  ∀ ss vs n' Hb' H', Stp K T S Hb H n Hb' H' n' → Args K S Hb' H' n' ss vs → P ss n' → Q vs H'
def ExD (K : PySem.W.Frag) (Hb : Hp) (od : Option Addr) (ns : List Str) (ds : List D) : Prop :=
  ∃ fs : List (Str × V), (od = none ∧ fs = [] ∨ ∃ dd, od = some dd ∧ fs ≠ [] ∧ Hb dd = some (.xd fs)) ∧ fs.map (·.1) = ns ∧ DnA K Hb (fs.map (·.2)) ds
def XOk (K : PySem.W.Frag) (T : Tb) (S : SA) (Hb H : Hp) (n : Nat) (XP : DX) (E : XK) : Prop :=
  ∀ C ns ds n' od Hb' H', Stp K T S Hb H n Hb' H' n' → ExD K Hb' od ns ds → XP C ns ds n' → E (.ref C) od H'

def Rd (K : PySem.W.Frag) (T : Tb) (S : SA) (E : XK) (te : TE) (F : DT) : Prop :=
  ∀ σ ρ Hb H n P XP Q, World T S Hb H → Slots K S Hb H n ρ σ → F ρ n P XP → VOk K T S Hb H n P Q → XOk K T S Hb H n XP E → te σ H Q
def RdT (K : PySem.W.Frag) (T : Tb) (S : SA) (E : XK) (tt : TT) (F : DTT) : Prop :=
  ∀ σ ρ Hb H n P XP Q, World T S Hb H → Slots K S Hb H n ρ σ → F ρ n P XP → BOk K T S Hb H n P Q → XOk K T S Hb H n XP E → tt σ H Q
def RdA (K : PySem.W.Frag) (T : Tb) (S : SA) (E : XK) (ta : TA) (F : DTA) : Prop :=
  ∀ σ ρ Hb H n P XP Q, World T S Hb H → Slots K S Hb H n ρ σ → F ρ n P XP → AOk K T S Hb H n P Q → XOk K T S Hb H n XP E → ta σ H Q

/-- a def's promise by data -/
def spOf (K : PySem.W.Frag) (T : Tb) (DS : DSp) : Sp := fun vs H Q E => ∃ S Hb n ss P XP, World T S Hb H ∧ Args K S Hb H n ss vs ∧ DS ss n P XP ∧ VOk K T S Hb H n P Q ∧ XOk K T S Hb H n XP E

section
variable {K : PySem.W.Frag} {T : Tb} {S : SA} {E : XK} {Hb H Hb1 H1 : Hp} {n n1 : Nat} {P : DQ} {XP : DX} {Q : VK}
theorem VOk.step (a : Stp K T S Hb H n Hb1 H1 n1) (h : VOk K T S Hb H n P Q) : VOk K T S Hb1 H1 n1 P Q := fun d v n' Hb' H' s => h d v n' Hb' H' (a.trans s)
theorem XOk.step (a : Stp K T S Hb H n Hb1 H1 n1) (h : XOk K T S Hb H n XP E) : XOk K T S Hb1 H1 n1 XP E := fun C ns ds n' od Hb' H' s => h C ns ds n' od Hb' H' (a.trans s)
theorem VOk.now {v : V} {d : D} (h : VOk K T S Hb H n P Q) (w : World T S Hb H) (hv : Dn K Hb v d) (p : P d n) : Q v H := h d v n Hb H (.refl w) hv p
theorem VOk.new {d : D} {p : Addr} {o : HO} (h : VOk K T S Hb H n P Q) (w : World T S Hb H) (hp : H p = none) (hv : Dn K (upd Hb p o) (.ref p) d) (q : P d n) (ho : ∀ ps, o ≠ .tbl ps := by intro _ z; cases z) : Q (.ref p) (upd H p o) := h d _ n _ _ (.new w hp ho) hv q
def xF : DX := fun _ _ _ _ => False
theorem XOk.none {E : XK} : XOk K T S Hb H n xF E := fun _ _ _ _ _ _ _ _ _ h => h.elim
end

/-! ### names, constants -/
def slotD (ρ : List SV) (i : Nat) (k : D → Prop) : Prop := match ρ[i]? with
  | some (.d x) => k x
  | _ => False
def xVar (i : Nat) : DT := fun ρ n P _ => slotD ρ i fun x => P x n
def xC (d : D) : DT := fun _ n P _ => P d n
section
variable {K : PySem.W.Frag} {T : Tb} {S : SA} {E : XK}
theorem Slots.dat {Hb H : Hp} {n : Nat} {ρ : List SV} {σ : L2.St} {i : Nat} {k : D → Prop} (sl : Slots K S Hb H n ρ σ) (h : slotD ρ i k) : ∃ v d, σ[i]? = some (some v) ∧ Dn K Hb v d ∧ k d := by
  unfold slotD at h
  cases e : ρ[i]? with
  | none => rw [e] at h; exact h.elim
  | some s =>
    rw [e] at h
    cases s with
    | d x =>
      obtain ⟨o, e1, v, e2, e3⟩ := sl.ok i _ e
      exact ⟨v, x, by rw [e1, e2], e3, h⟩
    | no => exact h.elim
    | st => exact h.elim
    | ol xs => exact h.elim
    | me _ _ _ _ => exact h.elim
    | od _ _ => exact h.elim
    | ot _ _ => exact h.elim
    | fv _ => exact h.elim
theorem rd_var {i : Nat} : Rd K T S E (tVar i) (xVar i) := fun σ ρ Hb H n P XP Q w sl h q _ => by
  obtain ⟨v, d, e, hd, p⟩ := sl.dat h
  exact ⟨v, e, q.now w hd p⟩
theorem rd_int {i : Int} : Rd K T S E (tC (.int i)) (xC (.int i)) := fun σ ρ Hb H n P XP Q w sl h q _ => q.now w (.int i) h
theorem rd_bl {i : Bool} : Rd K T S E (tC (.bl i)) (xC (.bl i)) := fun σ ρ Hb H n P XP Q w sl h q _ => q.now w (.bl i) h
theorem rd_str {i : Str} : Rd K T S E (tC (.str i)) (xC (.str i)) := fun σ ρ Hb H n P XP Q w sl h q _ => q.now w (.str i) h
theorem rd_non : Rd K T S E (tC .non) (xC .non) := fun σ ρ Hb H n P XP Q w sl h q _ => q.now w .non h

/-! ### arguments -/
def xaNil : DTA := fun _ n P _ => P [] n
def xaCons (F : DT) (G : DTA) : DTA := fun ρ n P XP => F ρ n (fun d n1 => G ρ n1 (fun ss n2 => P (.d d :: ss) n2) XP) XP
def xaSt (i : Nat) (G : DTA) : DTA := fun ρ n P XP => ρ[i]? = some .st ∧ G ρ n (fun ss n2 => P (.st :: ss) n2) XP
theorem rda_nil : RdA K T S E tNil xaNil := fun σ ρ Hb H n P XP Q w sl h q _ => q [] [] n Hb H (.refl w) .nil h
theorem rda_cons {te : TE} {ta : TA} {F : DT} {G : DTA} (h1 : Rd K T S E te F) (h2 : RdA K T S E ta G) : RdA K T S E (tCons te ta) (xaCons F G) := fun σ ρ Hb H n P XP Q w sl h q x =>
  h1 σ ρ Hb H n _ XP _ w sl h (fun d v n1 Hb1 H1 s hd p => h2 σ ρ Hb1 H1 n1 _ XP _ s.wd (sl.step s) p (fun ss vs n2 Hb2 H2 s2 ha p2 => q _ _ n2 Hb2 H2 (s.trans s2) (.cons (s := .d d) ⟨v, rfl, hd.up s2.ex⟩ ha) p2) (x.step s)) x
theorem rda_st {i : Nat} {ta : TA} {G : DTA} (h2 : RdA K T S E ta G) : RdA K T S E (tCons (tVar i) ta) (xaSt i G) := fun σ ρ Hb H n P XP Q w sl h q x => by
  obtain ⟨e, h⟩ := h
  obtain ⟨o, e1, e2, e3⟩ := sl.ok i _ e
  refine ⟨.ref S.a, by rw [e1, e2], ?_⟩
  exact h2 σ ρ Hb H n _ XP _ w sl h (fun ss vs n2 Hb2 H2 s2 ha p2 => q _ _ n2 Hb2 H2 s2 (.cons (s := .st) ⟨rfl, s2.st e3⟩ ha) p2) x

/-! ### calls of defs -/
/-! ### operators by values -/
/-- an operator on data: where it may stand, what it yields -/
def Op2 (K : PySem.W.Frag) (r : R2) (f : D → D → (D → Prop) → Prop) : Prop :=
  ∀ {T : Tb} {S : SA} {x y : V} {a b : D} {Hb H : Hp} {n : Nat} {P : DQ} {Q : VK}, World T S Hb H → Dn K Hb x a → Dn K Hb y b → f a b (fun d => P d n) → VOk K T S Hb H n P Q → r x y H Q
def xOp (f : D → D → (D → Prop) → Prop) (F G : DT) : DT := fun ρ n P XP => F ρ n (fun a n1 => G ρ n1 (fun b n2 => f a b fun d => P d n2) XP) XP
theorem rd_op {r : R2} {f : D → D → (D → Prop) → Prop} {ta tb : TE} {F G : DT} (ho : Op2 K r f) (h1 : Rd K T S E ta F) (h2 : Rd K T S E tb G) : Rd K T S E (tOp r ta tb) (xOp f F G) := fun σ ρ Hb H n P XP Q w sl h q x =>
  h1 σ ρ Hb H n _ XP _ w sl h (fun d v n1 Hb1 H1 s hd p => h2 σ ρ Hb1 H1 n1 _ XP _ s.wd (sl.step s) p (fun e u n2 Hb2 H2 s2 he p2 => ho s2.wd (hd.up s2.ex) he p2 ((q.step s).step s2)) (x.step s)) x
def Op1 (K : PySem.W.Frag) (r : V → Hp → VK → Prop) (f : D → (D → Prop) → Prop) : Prop :=
  ∀ {T : Tb} {S : SA} {x : V} {a : D} {Hb H : Hp} {n : Nat} {P : DQ} {Q : VK}, World T S Hb H → Dn K Hb x a → f a (fun d => P d n) → VOk K T S Hb H n P Q → r x H Q
def xUn (f : D → (D → Prop) → Prop) (F : DT) : DT := fun ρ n P XP => F ρ n (fun a n1 => f a fun d => P d n1) XP
theorem rd_un {r : V → Hp → VK → Prop} {f : D → (D → Prop) → Prop} {ta : TE} {F : DT} (ho : Op1 K r f) (h1 : Rd K T S E ta F) : Rd K T S E (tUn r ta) (xUn f F) := fun σ ρ Hb H n P XP Q w sl h q x =>
  h1 σ ρ Hb H n _ XP _ w sl h (fun d v n1 Hb1 H1 s hd p => ho s.wd hd p (q.step s)) x
/-- a built-in's call on data -/
def Cal (K : PySem.W.Frag) (r : List V → Hp → VK → Prop) (f : List SV → (D → Prop) → Prop) : Prop :=
  ∀ {T : Tb} {S : SA} {vs : List V} {ss : List SV} {Hb H : Hp} {n : Nat} {P : DQ} {Q : VK}, World T S Hb H → Args K S Hb H n ss vs → f ss (fun d => P d n) → VOk K T S Hb H n P Q → r vs H Q
def xCB (f : List SV → (D → Prop) → Prop) (G : DTA) : DT := fun ρ n P XP => G ρ n (fun ss n1 => f ss fun d => P d n1) XP
theorem rd_cb {r : List V → Hp → VK → Prop} {f : List SV → (D → Prop) → Prop} {ta : TA} {G : DTA} (ho : Cal K r f) (h1 : RdA K T S E ta G) : Rd K T S E (tCB r ta) (xCB f G) := fun σ ρ Hb H n P XP Q w sl h q x =>
  h1 σ ρ Hb H n _ XP _ w sl h (fun ss vs n1 Hb1 H1 s ha p => ho s.wd ha p (q.step s)) x

/-! ### tests, and, or, not, if -/
def xB (F : DT) : DTT := fun ρ n P XP => F ρ n (fun d n1 => match d with | .bl b => P b n1 | _ => False) XP
theorem rdt_B {te : TE} {F : DT} (h1 : Rd K T S E te F) : RdT K T S E (tB te) (xB F) := fun σ ρ Hb H n P XP Q w sl h q x =>
  h1 σ ρ Hb H n _ XP _ w sl h (fun d v n1 Hb1 H1 s hd p => by
    cases d with
    | bl b => cases hd; exact ⟨b, rfl, q b n1 Hb1 H1 s p⟩
    | _ => exact p.elim) x
theorem rdt_test {te : TE} {F : DT} (h1 : Rd K T S E te F) : RdT K T S E (tTest te) (xB F) := fun σ ρ Hb H n P XP Q w sl h q x =>
  h1 σ ρ Hb H n _ XP _ w sl h (fun d v n1 Hb1 H1 s hd p => by
    cases d with
    | bl b => cases hd; exact ⟨b, rfl, q b n1 Hb1 H1 s p⟩
    | _ => exact p.elim) x
def xtAnd (F G : DTT) : DTT := fun ρ n P XP => F ρ n (fun b n1 => match b with | true => G ρ n1 P XP | false => P false n1) XP
def xtOr (F G : DTT) : DTT := fun ρ n P XP => F ρ n (fun b n1 => match b with | true => P true n1 | false => G ρ n1 P XP) XP
def xtNot (F : DTT) : DTT := fun ρ n P XP => F ρ n (fun b n1 => P (!b) n1) XP
variable {t u : TT} {F G : DTT} {te tf : TE} {FE GE : DT}
theorem BOk.step {Hb H Hb1 H1 : Hp} {n n1 : Nat} {P : Bool → Nat → Prop} {Q : Bool → Hp → Prop} (a : Stp K T S Hb H n Hb1 H1 n1) (h : BOk K T S Hb H n P Q) : BOk K T S Hb1 H1 n1 P Q := fun b n' Hb' H' s => h b n' Hb' H' (a.trans s)
theorem rdt_and (h1 : RdT K T S E t F) (h2 : RdT K T S E u G) : RdT K T S E (tAnd t u) (xtAnd F G) := fun σ ρ Hb H n P XP Q w sl h q x =>
  h1 σ ρ Hb H n _ XP _ w sl h (fun b n1 Hb1 H1 s p => by
    cases b with
    | true => exact iteT (h2 σ ρ Hb1 H1 n1 _ XP _ s.wd (sl.step s) p (q.step s) (x.step s))
    | false => exact iteF (q _ _ _ _ s p)) x
theorem rdt_or (h1 : RdT K T S E t F) (h2 : RdT K T S E u G) : RdT K T S E (tOr t u) (xtOr F G) := fun σ ρ Hb H n P XP Q w sl h q x =>
  h1 σ ρ Hb H n _ XP _ w sl h (fun b n1 Hb1 H1 s p => by
    cases b with
    | false => exact iteF (h2 σ ρ Hb1 H1 n1 _ XP _ s.wd (sl.step s) p (q.step s) (x.step s))
    | true => exact iteT (q _ _ _ _ s p)) x
theorem rdt_not (h1 : RdT K T S E t F) : RdT K T S E (tNot t) (xtNot F) := fun σ ρ Hb H n P XP Q w sl h q x =>
  h1 σ ρ Hb H n _ XP _ w sl h (fun b n1 Hb1 H1 s p => q _ _ _ _ s p) x
def xAndV (F G : DT) : DT := fun ρ n P XP => F ρ n (fun d n1 => match d with | .bl true => G ρ n1 P XP | .bl false => P (.bl false) n1 | _ => False) XP
def xNotV (F : DT) : DT := fun ρ n P XP => F ρ n (fun d n1 => match d with | .bl b => P (.bl (!b)) n1 | _ => False) XP
theorem rd_andV (h1 : Rd K T S E te FE) (h2 : Rd K T S E tf GE) : Rd K T S E (tAndV te tf) (xAndV FE GE) := fun σ ρ Hb H n P XP Q w sl h q x =>
  h1 σ ρ Hb H n _ XP _ w sl h (fun d v n1 Hb1 H1 s hd p => by
    cases d with
    | bl b =>
      cases hd
      cases b with
      | true => exact ⟨true, rfl, iteT (h2 σ ρ Hb1 H1 n1 _ XP _ s.wd (sl.step s) p (q.step s) (x.step s))⟩
      | false => exact ⟨false, rfl, iteF (q _ _ _ _ _ s (.bl false) p)⟩
    | _ => exact p.elim) x
theorem rd_notV (h1 : Rd K T S E te FE) : Rd K T S E (tNotV te) (xNotV FE) := fun σ ρ Hb H n P XP Q w sl h q x =>
  h1 σ ρ Hb H n _ XP _ w sl h (fun d v n1 Hb1 H1 s hd p => by
    cases d with
    | bl b => cases hd; exact ⟨b, rfl, q _ _ _ _ _ s (.bl _) p⟩
    | _ => exact p.elim) x
def xIf (F : DTT) (G1 G2 : DT) : DT := fun ρ n P XP => F ρ n (fun b n1 => match b with | true => G1 ρ n1 P XP | false => G2 ρ n1 P XP) XP
theorem rd_if {tb : TE} {G2 : DT} (h1 : RdT K T S E t F) (h2 : Rd K T S E te FE) (h3 : Rd K T S E tb G2) : Rd K T S E (tIf t te tb) (xIf F FE G2) := fun σ ρ Hb H n P XP Q w sl h q x =>
  h1 σ ρ Hb H n _ XP _ w sl h (fun b n1 Hb1 H1 s p => by
    cases b with
    | true => exact iteT (h2 σ ρ Hb1 H1 n1 _ XP _ s.wd (sl.step s) p (q.step s) (x.step s))
    | false => exact iteF (h3 σ ρ Hb1 H1 n1 _ XP _ s.wd (sl.step s) p (q.step s) (x.step s))) x

/-! ### tuples, lists as displays -/
def svD : SV → Option D
  | .d x => some x
  | _ => none
def allD : List SV → Option (List D)
  | [] => some []
  | s :: ss => match svD s, allD ss with
    | some d, some ds => some (d :: ds)
    | _, _ => none
theorem Args.allD {Hb H : Hp} {n : Nat} : ∀ {ss : List SV} {vs : List V} {ds : List D}, Args K S Hb H n ss vs → DL.allD ss = some ds → DnA K Hb vs ds
  | [], _, _, h, e => by
    cases h
    cases (Option.some.inj e)
    exact .nil
  | s :: ss, _, ds, h, e => by
    cases h with
    | cons h1 h2 =>
      unfold DL.allD at e
      cases s with
      | d x =>
        cases e2 : DL.allD ss with
        | none => rw [e2] at e; simp [svD] at e
        | some es =>
          rw [e2] at e
          simp [svD] at e
          subst e
          obtain ⟨v, q1, q2⟩ := h1
          cases q1
          exact .cons q2 (Args.allD h2 e2)
      | _ => simp [svD] at e
def xTup (G : DTA) : DT := fun ρ n P XP => G ρ n (fun ss n1 => ∃ ds, allD ss = some ds ∧ ds.length ≤ 100000 ∧ P (.tup ds) n1) XP
def xLst (G : DTA) : DT := fun ρ n P XP => G ρ n (fun ss n1 => ∃ ds, allD ss = some ds ∧ ds.length ≤ 100000 ∧ P (.lst ds) n1) XP
theorem rd_tup {ta : TA} {G : DTA} (h1 : RdA K T S E ta G) : Rd K T S E (tTup ta) (xTup G) := fun σ ρ Hb H n P XP Q w sl h q x =>
  h1 σ ρ Hb H n _ XP _ w sl h (fun ss vs n1 Hb1 H1 s ha p => by
    obtain ⟨ds, e, hl, p⟩ := p
    have hd := ha.allD e
    refine ⟨sz_of (by rw [hd.len]; exact hl), fun a hp => ?_⟩
    exact (q.step s).new s.wd hp (.tup (SqT.of upd_same) (hd.up (Ex.new (free_of s.wd.ex hp)))) p) x
theorem rd_lst {ta : TA} {G : DTA} (h1 : RdA K T S E ta G) : Rd K T S E (tLst ta) (xLst G) := fun σ ρ Hb H n P XP Q w sl h q x =>
  h1 σ ρ Hb H n _ XP _ w sl h (fun ss vs n1 Hb1 H1 s ha p => by
    obtain ⟨ds, e, hl, p⟩ := p
    have hd := ha.allD e
    refine ⟨sz_of (by rw [hd.len]; exact hl), fun a hp => ?_⟩
    exact (q.step s).new s.wd hp (.lst (SqL.of upd_same) (hd.up (Ex.new (free_of s.wd.ex hp)))) p) x
end
end DL

/-! operators, subscripts, built-in functions on data -/
namespace DL
open L2 PySem PySem.Spec PyProof.Rows
open Evl (Ex ex_l ex_t sz_of)
section
variable {K : PySem.W.Frag} {T : Tb} {S : SA} {E : XK} {Hb H : Hp} {n : Nat} {P : DQ} {Q : VK} {X : Cx}
theorem Op2.or {r r' : R2} {f : D → D → (D → Prop) → Prop} (h : ∀ {T : Tb} {S : SA} {x y : V} {a b : D} {Hb H : Hp} {n : Nat} {P : DQ} {Q : VK}, World T S Hb H → Dn K Hb x a → Dn K Hb y b → f a b (fun d => P d n) → VOk K T S Hb H n P Q → r x y H Q ∨ r' x y H Q) : Op2 K (fun x y H Q => r x y H Q ∨ r' x y H Q) f := h
/-- v as data of the heap as it stands -/
theorem World.dn (w : World T S Hb H) {v : V} {d : D} (h : Dn K Hb v d) : Dn K H v d := h.up w.ex
/-! ### + -/
def rAddU (K : PySem.W.Frag) : R2 := fun x y H Q => (rI0 (fun i j => .int (i + j))) x y H Q ∨ ((∃ i j, x = .str i ∧ y = .str j ∧ i.length + j.length ≤ sizeLine ∧ Q (.str (i ++ j)) H) ∨ rCatA K x y H Q)
theorem op_addU : OpR X (binaryOp .Add) (rAddU X.K) := OpR.or op_add (OpR.or op_add_str op_catA)
def addD : D → D → (D → Prop) → Prop
  | .int i, .int j, k => k (.int (i + j))
  | .str x, .str y, k => x.length + y.length ≤ 100000 ∧ k (.str (x ++ y))
  | .tup xs, .tup ys, k => xs.length + ys.length ≤ 100000 ∧ k (.tup (xs ++ ys))
  | _, _, _ => False
theorem o2_add : Op2 K (rAddU K) addD := by
  intro T S x y a b Hb H n P Q w hx hy h q
  cases hx with
  | int i =>
    cases hy with
    | int j => exact .inl ⟨i, j, rfl, rfl, q.now w (.int _) h⟩
    | _ => exact h.elim
  | str i =>
    cases hy with
    | str j => exact .inr (.inl ⟨i, j, rfl, rfl, sz_of h.1, q.now w (.str _) h.2⟩)
    | _ => exact h.elim
  | @tup a xs ds h1 h2 =>
    cases hy with
    | @tup b ys es h3 h4 =>
      obtain ⟨hl, h⟩ := h
      refine .inr (.inr ⟨a, b, xs, ys, rfl, rfl, ex_t w.ex h1, ex_t w.ex h3, sz_of (by rw [h2.len, h4.len]; exact hl), fun e => ?_, fun e e' => ?_, fun e e' p hp => ?_⟩)
      · subst e
        have z : ds = [] := by have := h2.len; simpa using this.symm
        subst z
        exact q.now w (.tup h3 h4) h
      · subst e'
        have z : es = [] := by have := h4.len; simpa using this.symm
        subst z
        rw [List.append_nil] at h
        exact q.now w (.tup h1 h2) h
      · exact q.new w hp (.tup (SqT.of upd_same) ((h2.app h4).up (Ex.new (free_of w.ex hp)))) h
    | _ => exact h.elim
  | _ => exact h.elim
def subD : D → D → (D → Prop) → Prop
  | .int i, .int j, k => k (.int (i - j))
  | _, _, _ => False
theorem o2_sub : Op2 K (rI0 fun i j => .int (i - j)) subD := by
  intro T S x y a b Hb H n P Q w hx hy h q
  cases hx with
  | int i =>
    cases hy with
    | int j => exact ⟨i, j, rfl, rfl, q.now w (.int _) h⟩
    | _ => exact h.elim
  | _ => exact h.elim
def intD (C : Int → Int → Prop) (g : Int → Int → Int) : D → D → (D → Prop) → Prop
  | .int i, .int j, k => C i j ∧ k (.int (g i j))
  | _, _, _ => False
theorem o2_int {C : Int → Int → Prop} {g : Int → Int → Int} : Op2 K (rI C fun i j => .int (g i j)) (intD C g) := by
  intro T S x y a b Hb H n P Q w hx hy h q
  cases hx with
  | int i =>
    cases hy with
    | int j => exact ⟨i, j, rfl, rfl, h.1, q.now w (.int _) h.2⟩
    | _ => exact h.elim
  | _ => exact h.elim
def cmpD (g : Int → Int → Bool) : D → D → (D → Prop) → Prop
  | .int i, .int j, k => k (.bl (g i j))
  | _, _, _ => False
theorem o2_cmp {g : Int → Int → Bool} : Op2 K (rI0 fun i j => .bl (g i j)) (cmpD g) := by
  intro T S x y a b Hb H n P Q w hx hy h q
  cases hx with
  | int i =>
    cases hy with
    | int j => exact ⟨i, j, rfl, rfl, q.now w (.bl _) h⟩
    | _ => exact h.elim
  | _ => exact h.elim
/-! ### * : of ints, a tuple times an int -/
def rMulU (K : PySem.W.Frag) : R2 := fun x y H Q => (rI CMul (fun i j => .int (i * j))) x y H Q ∨ rRepT K x y H Q
theorem op_mulU : OpR X (binaryOp .Mult) (rMulU X.K) := OpR.or op_mul op_repT
def mulD : D → D → (D → Prop) → Prop
  | .int i, .int j, k => CMul i j ∧ k (.int (i * j))
  | .tup xs, .int j, k => xs ≠ [] ∧ 2 ≤ j ∧ j ≤ 1000 ∧ xs.length ≤ 1000 ∧ k (.tup (List.replicate j.toNat xs).flatten)
  | _, _, _ => False
theorem DnA.rep {vs : List V} {ds : List D} (h : DnA K H vs ds) : ∀ m : Nat, DnA K H (List.replicate m vs).flatten (List.replicate m ds).flatten
  | 0 => .nil
  | m + 1 => by
    rw [List.replicate_succ, List.replicate_succ, List.flatten_cons, List.flatten_cons]
    exact h.app (DnA.rep h m)
theorem o2_mul : Op2 K (rMulU K) mulD := by
  intro T S x y a b Hb H n P Q w hx hy h q
  cases hx with
  | int i =>
    cases hy with
    | int j => exact .inl ⟨i, j, rfl, rfl, h.1, q.now w (.int _) h.2⟩
    | _ => exact h.elim
  | @tup a xs ds h1 h2 =>
    cases hy with
    | int j =>
      obtain ⟨h3, h4, h5, h6, h⟩ := h
      refine .inr ⟨a, j, xs, rfl, rfl, ex_t w.ex h1, fun e => h3 (by subst e; have := h2.len; simpa using this.symm), h4, h5, by rw [h2.len]; exact h6, fun p hp => ?_⟩
      exact q.new w hp (.tup (SqT.of upd_same) ((h2.rep _).up (Ex.new (free_of w.ex hp)))) h
    | _ => exact h.elim
  | _ => exact h.elim
/-! ### ==, !=, is None -/
mutual
def toP : D → Option PyData
  | .non => some .none
  | .bl b => some (.bool b)
  | .int i => some (.int i)
  | .str x => some (.str x)
  | .lst ds => (toPs ds).map .list
  | .tup ds => (toPs ds).map .tuple
  | _ => none
def toPs : List D → Option (List PyData)
  | [] => some []
  | d :: ds => match toP d, toPs ds with
    | some p, some ps => some (p :: ps)
    | _, _ => none
end
mutual
theorem Dn.toDp : ∀ (d : D) {v : V} {p : PyData}, Dn K H v d → toP d = some p → Dp K H v p
  | .non, _, _, h, e => by cases h; cases e; exact .non
  | .bl b, _, _, h, e => by cases h; cases e; exact .bl b
  | .int i, _, _, h, e => by cases h; cases e; exact .int i
  | .str x, _, _, h, e => by cases h; cases e; exact .str x
  | .lst ds, _, p, h, e => by
    cases h with
    | lst h1 h2 =>
      unfold toP at e
      cases e2 : toPs ds with
      | none => rw [e2] at e; cases e
      | some ps =>
        rw [e2] at e
        cases e
        exact .lst h1 (DnA.toDp ds h2 e2)
  | .tup ds, _, p, h, e => by
    cases h with
    | tup h1 h2 =>
      unfold toP at e
      cases e2 : toPs ds with
      | none => rw [e2] at e; cases e
      | some ps =>
        rw [e2] at e
        cases e
        exact .tup h1 (DnA.toDp ds h2 e2)
  | .dic _ _, _, _, h, e => by unfold toP at e; cases e
  | .dit _ _, _, _, h, e => by unfold toP at e; cases e
  | .ins _ _ _, _, _, h, e => by unfold toP at e; cases e
  | .exc _ _ _, _, _, h, e => by unfold toP at e; cases e
  | .fnv _, _, _, h, e => by unfold toP at e; cases e
theorem DnA.toDp : ∀ (ds : List D) {vs : List V} {ps : List PyData}, DnA K H vs ds → toPs ds = some ps → DpAll K H vs ps
  | [], _, _, h, e => by cases h; cases e; exact .nil
  | d :: ds, _, ps, h, e => by
    cases h with
    | cons h1 h2 =>
      unfold toPs at e
      cases e1 : toP d with
      | none => rw [e1] at e; cases e
      | some p =>
        cases e2 : toPs ds with
        | none => rw [e1, e2] at e; cases e
        | some qs =>
          rw [e1, e2] at e
          cases e
          exact .cons (Dn.toDp d h1 e1) (DnA.toDp ds h2 e2)
end
/-- == of what is no object -/
def eqP (f : Bool → Bool) : D → D → (D → Prop) → Prop
  | .int i, .int j, k => k (.bl (f (decide (i = j))))
  | .bl i, .bl j, k => k (.bl (f (decide (i = j))))
  | .str i, .str j, k => k (.bl (f (decide (i = j))))
  | a, b, k => ∃ p q, toP a = some p ∧ toP b = some q ∧ SeqAt.shaped p = true ∧ SeqAt.shaped q = true ∧ k (.bl (f (PyData.eqv p q)))
def eqD : D → D → (D → Prop) → Prop := eqP id
def neD : D → D → (D → Prop) → Prop := eqP not
theorem eqP_int {f : Bool → Bool} {i j : Int} {k : D → Prop} : eqP f (.int i) (.int j) k = k (.bl (f (decide (i = j)))) := rfl
theorem eqP_bl {f : Bool → Bool} {i j : Bool} {k : D → Prop} : eqP f (.bl i) (.bl j) k = k (.bl (f (decide (i = j)))) := rfl
theorem eqP_str {f : Bool → Bool} {i j : Str} {k : D → Prop} : eqP f (.str i) (.str j) k = k (.bl (f (decide (i = j)))) := rfl
def rEqU (K : PySem.W.Frag) : R2 := fun x y H Q => rEq x y H Q ∨ rEqD K x y H Q
def rNeU (K : PySem.W.Frag) : R2 := fun x y H Q => rNe x y H Q ∨ rNeD K x y H Q
theorem op_eqU {X : Cx} (hu : X.A.units + 64 < cLine) : OpR X (compareOp .Eq) (rEqU X.K) := fun pins s σ H x y u v Q I rx ry h => h.elim (op_eq pins s σ H x y u v Q I rx ry) (op_eqD hu pins s σ H x y u v Q I rx ry)
theorem op_neU {X : Cx} (hu : X.A.units + 64 < cLine) : OpR X (compareOp .NotEq) (rNeU X.K) := fun pins s σ H x y u v Q I rx ry h => h.elim (op_ne pins s σ H x y u v Q I rx ry) (op_neD hu pins s σ H x y u v Q I rx ry)
theorem decI {i j : Int} : decide (V.int i = V.int j) = decide (i = j) := by simp
theorem decB {i j : Bool} : decide (V.bl i = V.bl j) = decide (i = j) := by simp
theorem decS {i j : Str} : decide (V.str i = V.str j) = decide (i = j) := by simp
theorem o2_eq : Op2 K (rEqU K) eqD := by
  intro T S x y a b Hb H n P Q w hx hy h q
  unfold eqD eqP at h
  split at h
  · cases hx
    cases hy
    exact .inl ⟨rfl, q.now w (.bl _) (by rw [decI]; exact h)⟩
  · cases hx
    cases hy
    exact .inl ⟨rfl, q.now w (.bl _) (by rw [decB]; exact h)⟩
  · cases hx
    cases hy
    exact .inl ⟨rfl, q.now w (.bl _) (by rw [decS]; exact h)⟩
  · obtain ⟨p, r, e1, e2, s1, s2, h⟩ := h
    exact .inr ⟨p, r, Dn.toDp _ (w.dn hx) e1, Dn.toDp _ (w.dn hy) e2, s1, s2, q.now w (.bl _) h⟩
theorem o2_ne : Op2 K (rNeU K) neD := by
  intro T S x y a b Hb H n P Q w hx hy h q
  unfold neD eqP at h
  split at h
  · cases hx
    cases hy
    exact .inl ⟨rfl, q.now w (.bl _) (by rw [decI]; exact h)⟩
  · cases hx
    cases hy
    exact .inl ⟨rfl, q.now w (.bl _) (by rw [decB]; exact h)⟩
  · cases hx
    cases hy
    exact .inl ⟨rfl, q.now w (.bl _) (by rw [decS]; exact h)⟩
  · obtain ⟨p, r, e1, e2, s1, s2, h⟩ := h
    exact .inr ⟨p, r, Dn.toDp _ (w.dn hx) e1, Dn.toDp _ (w.dn hy) e2, s1, s2, q.now w (.bl _) h⟩
/-! ### in, not in -/
def inD : D → D → (D → Prop) → Prop := fun a b k => ∃ (i : Int) (ns : List Int), a = .int i ∧ b = .tup (ns.map .int) ∧ k (.bl (ns.any (· == i)))
theorem o2_in : Op2 K (rIn K false) inD := by
  intro T S x y a b Hb H n P Q w hx hy h q
  obtain ⟨i, ns, rfl, rfl, h⟩ := h
  cases hx
  cases hy with
  | @tup a xs ds h1 h2 =>
    have ev : ∀ {ns : List Int} {xs : List V}, DnA K Hb xs (ns.map D.int) → xs = ns.map V.int := by
      intro ns
      induction ns with
      | nil => intro xs h; cases h; rfl
      | cons m ns ih =>
        intro xs h
        cases h with
        | cons h1 h2 =>
          cases h1
          rw [ih h2]
          rfl
    have e := ev h2
    subst e
    refine ⟨a, _, rfl, .inr (ex_t w.ex h1), rfl, ?_, ?_⟩
    · simp [List.all_map]; intro x hx; rfl
    · refine q.now w (.bl _) ?_
      have ei : inV (V.int i) (ns.map V.int) = ns.any (· == i) := by
        unfold inV
        rw [List.any_map]
        rfl
      show P (.bl (if false = true then !inV (V.int i) (ns.map V.int) else inV (V.int i) (ns.map V.int))) n
      rw [if_neg Bool.false_ne_true, ei]
      exact h
/-! ### in, not in: flat things in a list or a tuple -/
def flatD : D → Bool
  | .non | .bl _ | .int _ | .str _ => true
  | _ => false
/-! ### a <= b <= c -/
def xChain (f g : D → D → (D → Prop) → Prop) (F G I : DT) : DT := fun ρ n P XP => F ρ n (fun a n1 => G ρ n1 (fun b n2 => f a b fun d => match d with
  | .bl true => I ρ n2 (fun c n3 => g b c fun d => P d n3) XP
  | .bl false => P (.bl false) n2
  | _ => False) XP) XP
theorem rd_chain {r r' : R2} {f g : D → D → (D → Prop) → Prop} {ta tb tc : TE} {F G I : DT} (ho : Op2 K r f) (ho' : Op2 K r' g) (h1 : DL.Rd K T S E ta F) (h2 : DL.Rd K T S E tb G) (h3 : DL.Rd K T S E tc I) : DL.Rd K T S E (tChain r r' ta tb tc) (xChain f g F G I) := fun σ ρ Hb H n P XP Q w sl h q x =>
  h1 σ ρ Hb H n _ XP _ w sl h (fun d v n1 Hb1 H1 s hd p => h2 σ ρ Hb1 H1 n1 _ XP _ s.wd (sl.step s) p (fun e u n2 Hb2 H2 s2 he p2 => by
    refine ho (S := S) (P := fun d n => match d with
      | .bl true => I ρ n (fun c n3 => g e c fun d => P d n3) XP
      | .bl false => P (.bl false) n
      | _ => False) s2.wd (hd.up s2.ex) he p2 fun d3 v3 n3 Hb3 H3 s3 hd3 p3 => ?_
    cases d3 with
    | bl b =>
      cases hd3
      have st := (s.trans s2).trans s3
      cases b with
      | true =>
        refine ⟨true, rfl, iteT ?_⟩
        refine h3 σ ρ Hb3 H3 n3 _ XP _ s3.wd (sl.step st) p3 (fun c z n4 Hb4 H4 s4 hc p4 => ?_) (x.step st)
        exact ho' s4.wd ((he.up s3.ex).up s4.ex) hc p4 ((q.step st).step s4)
      | false => exact ⟨false, rfl, iteF (q _ _ _ _ _ st (.bl false) p3)⟩
    | _ => exact p3.elim) (x.step s)) x
/-! ### subscripts -/
def atD (xs : List D) (i : Int) : Option D := (ixN xs.length i).bind fun j => xs[j]?
theorem DnA.at {vs : List V} {ds : List D} {i : Int} {d : D} (h : DnA K H vs ds) (e : atD ds i = some d) : ∃ v, atI vs i = some v ∧ Dn K H v d := by
  unfold atD at e
  cases e1 : ixN ds.length i with
  | none => rw [e1] at e; cases e
  | some j =>
    rw [e1] at e
    obtain ⟨v, e2, hv⟩ := h.get (i := j) (by simpa using e)
    exact ⟨v, by unfold atI; rw [h.len, e1]; simpa using e2, hv⟩
def ixD : D → D → (D → Prop) → Prop
  | .lst xs, .int i, k => ∃ d, atD xs i = some d ∧ k d
  | .tup xs, .int i, k => ∃ d, atD xs i = some d ∧ k d
  | _, _, _ => False
theorem o2_ix : Op2 K (rIx K) ixD := by
  intro T S x y a b Hb H n P Q w hx hy h q
  cases hx with
  | @lst a xs ds h1 h2 =>
    cases hy with
    | int j =>
      obtain ⟨d, e, h⟩ := h
      obtain ⟨v, e2, hv⟩ := h2.at e
      exact .inl ⟨a, xs, j, v, rfl, rfl, ex_l w.ex h1, e2, q.now w hv h⟩
    | _ => exact h.elim
  | @tup a xs ds h1 h2 =>
    cases hy with
    | int j =>
      obtain ⟨d, e, h⟩ := h
      obtain ⟨v, e2, hv⟩ := h2.at e
      exact .inr (.inl ⟨a, xs, j, v, rfl, rfl, ex_t w.ex h1, e2, q.now w hv h⟩)
    | _ => exact h.elim
  | _ => exact h.elim
/-- d[k], the key in d -/
def keyD : D → Option Key
  | .int i => some (.inl i)
  | .str x => some (.inr x)
  | _ => none
def valD (ks : List Key) (ds : List D) (k : Key) : Option D := match ks, ds with
  | k' :: ks, d :: ds => if k' = k then some d else valD ks ds k
  | _, _ => none
/-! ### slices of tuples and lists -/
def cutD (xs : List D) (lo hi : Option Int) : List D := (xs.drop (HT.sIx xs.length 0 lo)).take (HT.sIx xs.length xs.length hi - HT.sIx xs.length 0 lo)
theorem DnA.cut {vs : List V} {ds : List D} (h : DnA K H vs ds) (lo hi : Option Int) : DnA K H (cutV vs lo hi) (cutD ds lo hi) := by
  unfold cutV cutD
  rw [h.len]
  exact (h.drop _).take _
def rSlU (K : PySem.W.Frag) : V → Option Int → Option Int → Hp → VK → Prop := fun x lo hi H Q => rSlL K x lo hi H Q ∨ (rSlA K x lo hi H Q ∨ rSlS x lo hi H Q)
theorem sl_U : SlR X (rSlU X.K) := SlR.or sl_list (SlR.or sl_tupA sl_str)
def slD : D → Option Int → Option Int → (D → Prop) → Prop
  | .lst xs, lo, hi, k => k (.lst (cutD xs lo hi))
  | .tup xs, lo, hi, k => k (.tup (cutD xs lo hi))
  | .str z, lo, hi, k => z.length ≤ 100000 ∧ k (.str (cutS z lo hi))
  | _, _, _, _ => False
abbrev DTO := List SV → Nat → (Option Int → Nat → Prop) → DX → Prop
def RdO (K : PySem.W.Frag) (T : Tb) (S : SA) (E : XK) (to : TO) (F : DTO) : Prop :=
  ∀ σ ρ Hb H n P XP (Q : Option Int → Hp → Prop), World T S Hb H → Slots K S Hb H n ρ σ → F ρ n P XP → (∀ o n' Hb' H', Stp K T S Hb H n Hb' H' n' → P o n' → Q o H') → XOk K T S Hb H n XP E → to σ H Q
def xoNone : DTO := fun _ n P _ => P none n
def xoSome (F : DT) : DTO := fun ρ n P XP => F ρ n (fun d n1 => match d with | .int i => P (some i) n1 | _ => False) XP
theorem rdo_none : RdO K T S E tNoPart xoNone := fun σ ρ Hb H n P XP Q w sl h q _ => q none n Hb H (.refl w) h
theorem rdo_some {te : TE} {F : DT} (h1 : DL.Rd K T S E te F) : RdO K T S E (tPart te) (xoSome F) := fun σ ρ Hb H n P XP Q w sl h q x =>
  h1 σ ρ Hb H n _ XP _ w sl h (fun d v n1 Hb1 H1 s hd p => by
    cases d with
    | int i => cases hd; exact ⟨i, rfl, q _ _ _ _ s p⟩
    | _ => exact p.elim) x
def xSl (F : DT) (G I : DTO) : DT := fun ρ n P XP => F ρ n (fun a n1 => G ρ n1 (fun lo n2 => I ρ n2 (fun hi n3 => slD a lo hi fun d => P d n3) XP) XP) XP
theorem rd_sl {te : TE} {tl th : TO} {F : DT} {G I : DTO} (h1 : DL.Rd K T S E te F) (h2 : RdO K T S E tl G) (h3 : RdO K T S E th I) : DL.Rd K T S E (tSl (rSlU K) te tl th) (xSl F G I) := fun σ ρ Hb H n P XP Q w sl h q x =>
  h1 σ ρ Hb H n _ XP _ w sl h (fun d v n1 Hb1 H1 s hd p => h2 σ ρ Hb1 H1 n1 _ XP _ s.wd (sl.step s) p (fun lo n2 Hb2 H2 s2 p2 => h3 σ ρ Hb2 H2 n2 _ XP _ s2.wd ((sl.step s).step s2) p2 (fun hi n3 Hb3 H3 s3 p3 => by
    have st := (s.trans s2).trans s3
    have hd3 := (hd.up s2.ex).up s3.ex
    have q3 := q.step st
    cases hd3 with
    | @lst a xs ds g1 g2 => exact .inl ⟨a, xs, rfl, ex_l s3.wd.ex g1, fun p hp => q3.new s3.wd hp (.lst (SqL.of upd_same) ((g2.cut lo hi).up (Ex.new (free_of s3.wd.ex hp)))) p3⟩
    | @tup a xs ds g1 g2 =>
      refine .inr (.inl ⟨a, xs, rfl, ex_t s3.wd.ex g1, fun e => ?_, fun _ p hp => q3.new s3.wd hp (.tup (SqT.of upd_same) ((g2.cut lo hi).up (Ex.new (free_of s3.wd.ex hp)))) p3⟩)
      have z : cutD ds lo hi = ds := by
        unfold cutD
        rw [← g2.len, e.1, e.2, g2.len]
        simp
      have p3 : P (.tup (cutD ds lo hi)) n3 := p3
      rw [z] at p3
      exact q3.now s3.wd (.tup g1 g2) p3
    | str z => exact .inr (.inr ⟨z, rfl, sz_of p3.1, q3.now s3.wd (.str _) p3.2⟩)
    | _ => exact p3.elim) ((x.step s).step s2)) (x.step s)) x
end
end DL

/-! repr, isinstance, len, all, tuple, list, int, abs on data -/
namespace DL
open L2 PySem PySem.Spec PyProof.Rows
open Evl (Ex ex_l ex_t sz_of)
section
variable {K : PySem.W.Frag} {T : Tb} {S : SA} {E : XK} {Hb H : Hp} {n : Nat} {P : DQ} {Q : VK} {X : Cx}
/-! ### repr -/
def okR (d : PyData) : Prop := d.showable = true ∧ d.hasDict = false ∧ d.depth ≤ 60 ∧ d.shown.length ≤ 100000
def rRepr (K : PySem.W.Frag) : List V → Hp → VK → Prop := fun xs H Q => ∃ v d, xs = [v] ∧ Dp K H v d ∧ okR d ∧ Q (.str d.shown) H
theorem call_repr (hg : X.A.guards = some []) (hu : X.A.units + 64 < cLine) : CallR X (.builtin "repr") (rRepr X.K) := by
  intro pins s σ H xs us Q I r h
  obtain ⟨v, d, rfl, hd, ⟨h1, h2, h3, h4⟩, q⟩ := h
  obtain ⟨u, rfl, ru⟩ : ∃ u, us = [u] ∧ RelV v u := by
    cases r with
    | cons a b => cases b; exact ⟨_, rfl, a⟩
  have seqs : ∀ a, u = .ref a → isDisplay d = true → wpAny (model X.prog X.w) X.A (call (.builtin "repr") [u]) (EP X pins σ Q) X.xe s := fun a e _ => by
    subst e
    obtain ⟨as, rd⟩ := Dp.reads I d v _ hd ru
    refine repr_of_reads' rd h1 (PyData.noDict_hsm h2) hg (by omega) (fun _ _ e => e) (fun h' u tk hk => ?_) (sz_of h4)
    exact ⟨.str d.shown, H, I.kept (h' := h') (t' := tk) hk, ⟨_, rfl⟩, q⟩
  cases hd with
  | non => cases ru; exact PySem.P.repr_of_none ⟨.str _, H, I.tok _, ⟨_, rfl⟩, q⟩
  | bl b => cases ru; exact PySem.P.repr_of_bool ⟨.str _, H, I.tok _, ⟨_, rfl⟩, q⟩
  | int i =>
    obtain ⟨t, rfl⟩ := ru
    exact PySem.P.repr_of_int (by simpa [PyData.showable] using h1) ⟨.str _, H, I.tok _, ⟨_, rfl⟩, q⟩
  | str x =>
    obtain ⟨t, rfl⟩ := ru
    exact PySem.P.repr_of_str ⟨.str _, H, I.tok _, ⟨_, rfl⟩, q⟩ (sz_of h4)
  | lst a b => exact seqs _ ru rfl
  | tup a b => exact seqs _ ru rfl
def reprD : List SV → (D → Prop) → Prop
  | [.d d], k => ∃ p, toP d = some p ∧ okR p ∧ k (.str p.shown)
  | _, _ => False
theorem cal_repr : Cal K (rRepr K) reprD := by
  intro T S vs ss Hb H n P Q w ha h q
  cases ha with
  | nil => exact h.elim
  | @cons s v ss vs h1 h2 =>
    cases h2 with
    | cons _ _ => cases s <;> exact h.elim
    | nil =>
      cases s with
      | d d =>
        obtain ⟨p, e, ok, h⟩ := h
        obtain ⟨v', e', hv⟩ := h1
        cases e'
        exact ⟨v, p, rfl, Dn.toDp d (w.dn hv) e, ok, q.now w (.str _) h⟩
      | _ => exact h.elim
/-- one argument that is data -/
def one1 (f : D → (D → Prop) → Prop) : List SV → (D → Prop) → Prop
  | [.d d], k => f d k
  | _, _ => False
theorem cal_one {r : List V → Hp → VK → Prop} {f : D → (D → Prop) → Prop} (h : ∀ {T : Tb} {S : SA} {v : V} {d : D} {Hb H : Hp} {n : Nat} {P : DQ} {Q : VK}, World T S Hb H → Dn K Hb v d → f d (fun d => P d n) → VOk K T S Hb H n P Q → r [v] H Q) : Cal K r (one1 f) := by
  intro T S vs ss Hb H n P Q w ha hf q
  cases ha with
  | nil => exact hf.elim
  | @cons s v ss vs h1 h2 =>
    cases h2 with
    | cons _ _ => cases s <;> exact hf.elim
    | nil =>
      cases s with
      | d d =>
        obtain ⟨v', e', hv⟩ := h1
        cases e'
        exact h w hv hf q
      | _ => exact hf.elim
def two2 (f : D → D → (D → Prop) → Prop) : List SV → (D → Prop) → Prop
  | [.d a, .d b], k => f a b k
  | _, _ => False
theorem cal_two {r : List V → Hp → VK → Prop} {f : D → D → (D → Prop) → Prop} (h : ∀ {T : Tb} {S : SA} {v u : V} {a b : D} {Hb H : Hp} {n : Nat} {P : DQ} {Q : VK}, World T S Hb H → Dn K Hb v a → Dn K Hb u b → f a b (fun d => P d n) → VOk K T S Hb H n P Q → r [v, u] H Q) : Cal K r (two2 f) := by
  intro T S vs ss Hb H n P Q w ha hf q
  cases ha with
  | nil => exact hf.elim
  | @cons s v ss vs h1 h2 =>
    cases h2 with
    | nil => cases s <;> exact hf.elim
    | @cons s' v' ss' vs' h3 h4 =>
      cases h4 with
      | cons _ _ => cases s <;> first | exact hf.elim | (cases s' <;> exact hf.elim)
      | nil =>
        cases s with
        | d d =>
          cases s' with
          | d e =>
            obtain ⟨_, e1, hv⟩ := h1
            obtain ⟨_, e2, hu⟩ := h3
            cases e1
            cases e2
            exact h w hv hu hf q
          | _ => exact hf.elim
        | _ => exact hf.elim
/-! ### len -/
def rLenU (K : PySem.W.Frag) : List V → Hp → VK → Prop := fun xs H Q => (∃ p ys, xs = [.ref p] ∧ (SqL K H p ys ∨ SqT K H p ys) ∧ Q (.int ys.length) H) ∨ ∃ z, xs = [.str z] ∧ z.length ≤ sizeLine ∧ Q (.int z.length) H
theorem call_lenU : CallR X (.builtin "len") (rLenU X.K) := CallR.or call_len_seq call_len_str
def lenD : D → (D → Prop) → Prop
  | .lst xs, k => k (.int xs.length)
  | .tup xs, k => k (.int xs.length)
  | .str z, k => z.length ≤ 100000 ∧ k (.int z.length)
  | _, _ => False
theorem cal_len : Cal K (rLenU K) (one1 lenD) := by
  refine cal_one ?_
  intro T S v d Hb H n P Q w hv h q
  cases hv with
  | lst h1 h2 => exact .inl ⟨_, _, rfl, .inl (ex_l w.ex h1), q.now w (.int _) (by rw [h2.len]; exact h)⟩
  | tup h1 h2 => exact .inl ⟨_, _, rfl, .inr (ex_t w.ex h1), q.now w (.int _) (by rw [h2.len]; exact h)⟩
  | str z => exact .inr ⟨_, rfl, sz_of h.1, q.now w (.int _) h.2⟩
  | _ => exact h.elim
/-! ### all, any -/
def blsD : List D → Option (List Bool)
  | [] => some []
  | .bl b :: ds => (blsD ds).map (b :: ·)
  | _ :: _ => none
theorem bls_of : ∀ {ds : List D} {vs : List V} {bs : List Bool}, DnA K H vs ds → blsD ds = some bs → vs = bs.map V.bl
  | [], _, bs, h, e => by cases h; cases e; rfl
  | d :: ds, _, bs, h, e => by
    cases h with
    | cons h1 h2 =>
      cases d with
      | bl b =>
        unfold blsD at e
        cases e2 : blsD ds with
        | none => rw [e2] at e; cases e
        | some cs =>
          rw [e2] at e
          cases e
          cases h1
          rw [bls_of h2 e2]
          rfl
      | _ => cases e
def allD' : D → (D → Prop) → Prop
  | .lst xs, k => ∃ bs, blsD xs = some bs ∧ k (.bl (bs.all id))
  | _, _ => False
def anyD' : D → (D → Prop) → Prop
  | .lst xs, k => ∃ bs, blsD xs = some bs ∧ k (.bl (bs.any id))
  | _, _ => False
theorem cal_all : Cal K (rAll K) (one1 allD') := by
  refine cal_one ?_
  intro T S v d Hb H n P Q w hv h q
  cases hv with
  | lst h1 h2 =>
    obtain ⟨bs, e, h⟩ := h
    refine ⟨_, bs, rfl, ?_, q.now w (.bl _) h⟩
    rw [← bls_of h2 e]
    exact ex_l w.ex h1
  | _ => exact h.elim
theorem cal_any : Cal K (rAny K) (one1 anyD') := by
  refine cal_one ?_
  intro T S v d Hb H n P Q w hv h q
  cases hv with
  | lst h1 h2 =>
    obtain ⟨bs, e, h⟩ := h
    refine ⟨_, bs, rfl, ?_, q.now w (.bl _) h⟩
    rw [← bls_of h2 e]
    exact ex_l w.ex h1
  | _ => exact h.elim
/-! ### tuple, list -/
def rTupOf (K : PySem.W.Frag) : List V → Hp → VK → Prop := fun xs H Q => ∃ p ys, xs = [.ref p] ∧ ((SqL K H p ys ∧ ∀ l, H l = none → Q (.ref l) (upd H l (.tup ys))) ∨ (SqT K H p ys ∧ Q (.ref p) H))
def tupD : D → (D → Prop) → Prop
  | .lst xs, k => k (.tup xs)
  | .tup xs, k => k (.tup xs)
  | _, _ => False
theorem call_tupU : CallR X (.type "tuple") (rTupOf X.K) := call_tuple_of
theorem cal_tuple : Cal K (rTupOf K) (one1 tupD) := by
  refine cal_one ?_
  intro T S v d Hb H n P Q w hv h q
  cases hv with
  | lst h1 h2 => exact ⟨_, _, rfl, .inl ⟨ex_l w.ex h1, fun p hp => q.new w hp (.tup (SqT.of upd_same) (h2.up (Ex.new (free_of w.ex hp)))) h⟩⟩
  | tup h1 h2 => exact ⟨_, _, rfl, .inr ⟨ex_t w.ex h1, q.now w (.tup h1 h2) h⟩⟩
  | _ => exact h.elim
/-! ### ints -/
def int1D : D → (D → Prop) → Prop
  | .int i, k => k (.int i)
  | _, _ => False
def rInt1 : List V → Hp → VK → Prop := fun xs H Q => (∃ i, xs = [.int i] ∧ Q (.int i) H) ∨ ∃ k, xs = [.bl k] ∧ Q (.int (if k then 1 else 0)) H
theorem call_rInt1 : CallR X (.type "int") rInt1 := call_int1
theorem cal_int : Cal K (rInt1) (one1 int1D) := by
  refine cal_one ?_
  intro T S v d Hb H n P Q w hv h q
  cases hv with
  | int i => exact .inl ⟨_, rfl, q.now w (.int _) h⟩
  | _ => exact h.elim
def rAbs : List V → Hp → VK → Prop := fun xs H Q => ∃ i, xs = [.int i] ∧ Q (.int (if i < 0 then -i else i)) H
theorem call_rAbs : CallR X (.builtin "abs") rAbs := call_abs
def maxD : D → D → (D → Prop) → Prop
  | .int i, .int j, k => k (.int (if j > i then j else i))
  | _, _, _ => False
def minD : D → D → (D → Prop) → Prop
  | .int i, .int j, k => k (.int (if j < i then j else i))
  | _, _, _ => False
def rMax2 : List V → Hp → VK → Prop := fun xs H Q => ∃ i j, xs = [.int i, .int j] ∧ Q (.int (if j > i then j else i)) H
theorem call_rMax2 (hc : X.calm = true) : CallR X (.builtin "max") rMax2 := call_max2 hc
theorem cal_max2 : Cal K (rMax2) (two2 maxD) := by
  refine cal_two ?_
  intro T S v u a b Hb H n P Q w hv hu h q
  cases hv with
  | int i =>
    cases hu with
    | int j => exact ⟨_, _, rfl, q.now w (.int _) h⟩
    | _ => exact h.elim
  | _ => exact h.elim
def rMin2 : List V → Hp → VK → Prop := fun xs H Q => ∃ i j, xs = [.int i, .int j] ∧ Q (.int (if j < i then j else i)) H
theorem call_rMin2 (hc : X.calm = true) : CallR X (.builtin "min") rMin2 := call_min2 hc
theorem cal_min2 : Cal K (rMin2) (two2 minD) := by
  refine cal_two ?_
  intro T S v u a b Hb H n P Q w hv hu h q
  cases hv with
  | int i =>
    cases hu with
    | int j => exact ⟨_, _, rfl, q.now w (.int _) h⟩
    | _ => exact h.elim
  | _ => exact h.elim
def negD : D → (D → Prop) → Prop
  | .int i, k => k (.int (-i))
  | _, _ => False
theorem o1_neg : Op1 K (rU fun i => .int (-i)) negD := by
  intro T S x a Hb H n P Q w hx h q
  cases hx with
  | int i => exact ⟨i, rfl, q.now w (.int _) h⟩
  | _ => exact h.elim
end
end DL

/-! statements, targets, what is walked, comprehensions, displays, fields, isinstance on data -/
namespace DL
open L2 PySem PySem.Spec PyProof.Rows
open Evl (Ex ex_l ex_t sz_of)

/-! ### statements -/
structure DEn where
  nx : List SV → Nat → Prop
  rt : DQ
  bk : List SV → Nat → Prop := fun _ _ => False
  ct : List SV → Nat → Prop := fun _ _ => False
abbrev DTS := DEn → List SV → Nat → DX → Prop
/-- the lists of one's own are younger than the base -/
def OwF (H0 : Hp) (ρ : List SV) (σ : L2.St) : Prop := ∀ (i : Nat) (xs : SV) (p : Addr), ρ[i]? = some xs → isOwn xs = true → σ[i]? = some (some (.ref p)) → Fresh H0 p
structure Sl0 (K : PySem.W.Frag) (S : SA) (H0 Hb H : Hp) (n : Nat) (ρ : List SV) (σ : L2.St) : Prop where
  sl : Slots K S Hb H n ρ σ
  fr : OwF H0 ρ σ
def NOk (K : PySem.W.Frag) (T : Tb) (S : SA) (Hb H : Hp) (n : Nat) (Hc : Hp) (P : List SV → Nat → Prop) (Q : L2.St → Hp → Prop) : Prop :=
  ∀ ρ σ n' Hb' H', Ex Hc Hb' → Stp K T S Hb H n Hb' H' n' → Sl0 K S H Hb' H' n' ρ σ → P ρ n' → Q σ H'
/-- Hc: what is frozen now -/
structure EOk (K : PySem.W.Frag) (T : Tb) (S : SA) (Hb H : Hp) (n : Nat) (Hc : Hp) (DD : DEn) (D : Ends) : Prop where
  nx : NOk K T S Hb H n Hc DD.nx D.nx
  rt : VOk K T S Hb H n DD.rt D.rt
  bk : NOk K T S Hb H n Hc DD.bk D.bk
  ct : NOk K T S Hb H n Hc DD.ct D.ct
/-- from the base Hb0 H0 n0 (a def's entry) the run has come to Hb H n -/
def RdS (K : PySem.W.Frag) (T : Tb) (S : SA) (E : XK) (ts : TS) (G : DTS) : Prop :=
  ∀ σ ρ Hb0 H0 n0 Hb H n DD XP D, Stp K T S Hb0 H0 n0 Hb H n → Sl0 K S H0 Hb H n ρ σ → G DD ρ n XP → EOk K T S Hb0 H0 n0 Hb DD D → XOk K T S Hb0 H0 n0 XP E → ts D σ H
section
variable {K : PySem.W.Frag} {T : Tb} {S : SA} {E : XK} {Hb H Hb1 H1 H0 : Hp} {n n1 : Nat}
/-- a slot is stored -/
theorem Slots.set {ρ : List SV} {σ : L2.St} {i : Nat} {v : V} {d : D} (sl : Slots K S Hb H n ρ σ) (h : Dn K Hb v d) : Slots K S Hb H n (ρ.set i (.d d)) (σ.set i (some v)) where
  len := by rw [List.length_set, List.length_set]; exact sl.len
  ok := fun j s e => by
    by_cases hj : i = j
    · subst hj
      have hl : i < ρ.length := by
        have := (List.getElem?_eq_some_iff.mp e).1
        rwa [List.length_set] at this
      rw [List.getElem?_set_self hl] at e
      cases e
      exact ⟨some v, List.getElem?_set_self (by rw [← sl.len]; exact hl), v, rfl, h⟩
    · rw [List.getElem?_set_ne hj] at e
      obtain ⟨o, e1, e2⟩ := sl.ok j s e
      exact ⟨o, by rw [List.getElem?_set_ne hj]; exact e1, e2⟩
  ap := fun j k p xs ys hjk ej ek sj sk => by
    by_cases h1 : i = j
    · subst h1
      have hl : i < ρ.length := by
        have := (List.getElem?_eq_some_iff.mp ej).1
        rwa [List.length_set] at this
      rw [List.getElem?_set_self hl] at ej
      cases ej
    · by_cases h2 : i = k
      · subst h2
        have hl : i < ρ.length := by
          have := (List.getElem?_eq_some_iff.mp ek).1
          rwa [List.length_set] at this
        rw [List.getElem?_set_self hl] at ek
        cases ek
      · rw [List.getElem?_set_ne h1] at ej sj
        rw [List.getElem?_set_ne h2] at ek sk
        exact sl.ap j k p xs ys hjk ej ek sj sk
theorem Slots.forget {ρ : List SV} {σ : L2.St} {i : Nat} {o : Option V} (sl : Slots K S Hb H n ρ σ) : Slots K S Hb H n (ρ.set i .no) (σ.set i o) where
  len := by rw [List.length_set, List.length_set]; exact sl.len
  ok := fun j s e => by
    by_cases hj : i = j
    · subst hj
      have hl : i < ρ.length := by
        have := (List.getElem?_eq_some_iff.mp e).1
        rwa [List.length_set] at this
      rw [List.getElem?_set_self hl] at e
      cases e
      exact ⟨o, List.getElem?_set_self (by rw [← sl.len]; exact hl), trivial⟩
    · rw [List.getElem?_set_ne hj] at e
      obtain ⟨o, e1, e2⟩ := sl.ok j s e
      exact ⟨o, by rw [List.getElem?_set_ne hj]; exact e1, e2⟩
  ap := fun j k p xs ys hjk ej ek sj sk => by
    by_cases h1 : i = j
    · subst h1
      have hl : i < ρ.length := by
        have := (List.getElem?_eq_some_iff.mp ej).1
        rwa [List.length_set] at this
      rw [List.getElem?_set_self hl] at ej
      cases ej
    · by_cases h2 : i = k
      · subst h2
        have hl : i < ρ.length := by
          have := (List.getElem?_eq_some_iff.mp ek).1
          rwa [List.length_set] at this
        rw [List.getElem?_set_self hl] at ek
        cases ek
      · rw [List.getElem?_set_ne h1] at ej sj
        rw [List.getElem?_set_ne h2] at ek sk
        exact sl.ap j k p xs ys hjk ej ek sj sk
def wipeS (ρ : List SV) : List Nat → List SV
  | [] => ρ
  | v :: vs => (wipeS ρ vs).set v .no
theorem Slots.wiped {ρ : List SV} {σ : L2.St} (sl : Slots K S Hb H n ρ σ) : ∀ vs : List Nat, Slots K S Hb H n (wipeS ρ vs) (wipe σ vs)
  | [] => sl
  | v :: vs => (Slots.wiped sl vs).forget

theorem OwF.set {ρ : List SV} {σ : L2.St} {i : Nat} {s : SV} {o : Option V} (f : OwF H0 ρ σ) (hs : isOwn s = false) : OwF H0 (ρ.set i s) (σ.set i o) := fun j xs p e1 eo e2 => by
  by_cases hj : i = j
  · subst hj
    have hl : i < ρ.length := by
      have := (List.getElem?_eq_some_iff.mp e1).1
      rwa [List.length_set] at this
    rw [List.getElem?_set_self hl] at e1
    rw [← Option.some.inj e1, hs] at eo
    cases eo
  · rw [List.getElem?_set_ne hj] at e1 e2
    exact f j xs p e1 eo e2
theorem Sl0.step {ρ : List SV} {σ : L2.St} (a : Stp K T S Hb H n Hb1 H1 n1) (h : Sl0 K S H0 Hb H n ρ σ) : Sl0 K S H0 Hb1 H1 n1 ρ σ := ⟨h.sl.step a, h.fr⟩
theorem Sl0.set {ρ : List SV} {σ : L2.St} {i : Nat} {v : V} {d : D} (sl : Sl0 K S H0 Hb H n ρ σ) (h : Dn K Hb v d) : Sl0 K S H0 Hb H n (ρ.set i (.d d)) (σ.set i (some v)) := ⟨sl.sl.set h, sl.fr.set rfl⟩

theorem NOk.up {Hb0 Hc Hc' : Hp} {n0 : Nat} {P : List SV → Nat → Prop} {Q : L2.St → Hp → Prop} (e : Ex Hc Hc') (h : NOk K T S Hb0 H0 n0 Hc P Q) : NOk K T S Hb0 H0 n0 Hc' P Q := fun ρ σ n' Hb' H' e' => h ρ σ n' Hb' H' (e.trans e')
theorem EOk.up {Hb0 Hc Hc' : Hp} {n0 : Nat} {DD : DEn} {D : Ends} (e : Ex Hc Hc') (h : EOk K T S Hb0 H0 n0 Hc DD D) : EOk K T S Hb0 H0 n0 Hc' DD D := ⟨h.nx.up e, h.rt, h.bk.up e, h.ct.up e⟩
def xsSeq (F G : DTS) : DTS := fun DD ρ n XP => F { DD with nx := fun ρ' n' => G DD ρ' n' XP } ρ n XP
def xsNext : DTS := fun DD ρ n _ => DD.nx ρ n
def xsSet (i : Nat) (F : DT) : DTS := fun DD ρ n XP => F ρ n (fun d n1 => DD.nx (ρ.set i (.d d)) n1) XP
def xsRet (F : DT) : DTS := fun DD ρ n XP => F ρ n DD.rt XP
def xsIf (F : DTT) (G1 G2 : DTS) : DTS := fun DD ρ n XP => F ρ n (fun b n1 => match b with | true => G1 DD ρ n1 XP | false => G2 DD ρ n1 XP) XP
def xsDrop (F : DT) : DTS := fun DD ρ n XP => F ρ n (fun _ n1 => DD.nx ρ n1) XP
variable {t u : TS} {F G : DTS} {te : TE} {FE : DT}
theorem rds_seq (h1 : RdS K T S E t F) (h2 : RdS K T S E u G) : RdS K T S E (tSeq t u) (xsSeq F G) := fun σ ρ Hb0 H0 n0 Hb H n DD XP D a sl h q x =>
  h1 σ ρ Hb0 H0 n0 Hb H n _ XP _ a sl h ⟨fun ρ' σ' n' Hb' H' e s sl' p => h2 σ' ρ' Hb0 H0 n0 Hb' H' n' DD XP D s sl' p (q.up e) x, q.rt, q.bk, q.ct⟩ x
theorem rds_next : RdS K T S E tNext xsNext := fun σ ρ Hb0 H0 n0 Hb H n DD XP D a sl h q x => q.nx ρ σ n Hb H (Ex.refl _) a sl h
theorem rds_set {i : Nat} (h1 : DL.Rd K T S E te FE) : RdS K T S E (tAsg te (gName i)) (xsSet i FE) := fun σ ρ Hb0 H0 n0 Hb H n DD XP D a sl h q x =>
  h1 σ ρ Hb H n _ XP _ a.wd sl.sl h (fun d v n1 Hb1 H1 s hd p => q.nx _ _ n1 Hb1 H1 s.ex (a.trans s) ((sl.step s).set hd) p) (x.step a)
theorem rds_ret (h1 : DL.Rd K T S E te FE) : RdS K T S E (tRet te) (xsRet FE) := fun σ ρ Hb0 H0 n0 Hb H n DD XP D a sl h q x => h1 σ ρ Hb H n _ XP _ a.wd sl.sl h (q.rt.step a) (x.step a)
theorem rds_if {c : TT} {FT : DTT} (hc : RdT K T S E c FT) (h1 : RdS K T S E t F) (h2 : RdS K T S E u G) : RdS K T S E (tIfS c t u) (xsIf FT F G) := fun σ ρ Hb0 H0 n0 Hb H n DD XP D a sl h q x =>
  hc σ ρ Hb H n _ XP _ a.wd sl.sl h (fun b n1 Hb1 H1 s p => by
    cases b with
    | true => exact iteT (h1 σ ρ Hb0 H0 n0 Hb1 H1 n1 _ XP _ (a.trans s) (sl.step s) p (q.up s.ex) x)
    | false => exact iteF (h2 σ ρ Hb0 H0 n0 Hb1 H1 n1 _ XP _ (a.trans s) (sl.step s) p (q.up s.ex) x)) (x.step a)
theorem rds_drop (h1 : DL.Rd K T S E te FE) : RdS K T S E (tDrop te) (xsDrop FE) := fun σ ρ Hb0 H0 n0 Hb H n DD XP D a sl h q x =>
  h1 σ ρ Hb H n _ XP _ a.wd sl.sl h (fun d v n1 Hb1 H1 s hd p => q.nx _ _ n1 Hb1 H1 s.ex (a.trans s) (sl.step s) p) (x.step a)
theorem Args.one {ss : List SV} {vs : List V} {d : D} (h : Args K S Hb H n [.d d] vs) : ∃ v, vs = [v] ∧ Dn K Hb v d := by
  cases h with
  | cons h1 h2 =>
    cases h2
    obtain ⟨_, e, hv⟩ := h1
    cases e
    exact ⟨_, rfl, hv⟩
theorem Args.two {ss : List SV} {vs : List V} {d e : D} (h : Args K S Hb H n [.d d, .d e] vs) : ∃ v u, vs = [v, u] ∧ Dn K Hb v d ∧ Dn K Hb u e := by
  cases h with
  | cons h1 h2 =>
    obtain ⟨u, rfl, hu⟩ := Args.one (ss := []) h2
    obtain ⟨_, e, hv⟩ := h1
    cases e
    exact ⟨_, _, rfl, hv, hu⟩
/-- raise C('..') -/
def xsRaise (C : Addr) : DTS := fun _ _ n XP => XP C [] [] n
theorem rds_raise {C : Addr} : RdS K T S E (fun _ σ H => E (.ref C) none H) (xsRaise C) := fun σ ρ Hb0 H0 n0 Hb H n DD XP D a sl h q x =>
  x C [] [] n none Hb H a ⟨[], .inl ⟨rfl, rfl⟩, rfl, .nil⟩ h
/-! ### targets -/
abbrev DTG := D → List SV → (List SV → Prop) → Prop
def RdG (K : PySem.W.Frag) (T : Tb) (S : SA) (vs : List Nat) (g : TG) (G : DTG) : Prop :=
  ∀ v d σ ρ H0 Hb H n P Q, World T S Hb H → Sl0 K S H0 Hb H n ρ σ → Dn K Hb v d → G d ρ P → (∀ ρ' σ', Sl0 K S H0 Hb H n ρ' σ' → wipe σ' vs = wipe σ vs → P ρ' → Q σ' H) → g v σ H Q
theorem wipe_set {σ : L2.St} {i : Nat} {o : Option V} : ∀ {vs : List Nat}, i ∈ vs → wipe (σ.set i o) vs = wipe σ vs
  | v :: vs, h => by
    unfold wipe
    by_cases hv : i ∈ vs
    · rw [wipe_set hv]
    · have e : i = v := by
        rcases List.mem_cons.mp h with e | e
        · exact e
        · exact absurd e hv
      subst e
      have z : ∀ {ws : List Nat}, i ∉ ws → (wipe (σ.set i o) ws) = (wipe σ ws).set i o := by
        intro ws
        induction ws with
        | nil => intro _; rfl
        | cons w ws ih =>
          intro hw
          have h1 : i ≠ w := fun e => hw (by rw [e]; exact List.mem_cons_self)
          have h2 : i ∉ ws := fun m => hw (List.mem_cons_of_mem _ m)
          unfold wipe
          rw [ih h2, List.set_comm _ _ h1]
      rw [z hv, List.set_set]
def xgName (i : Nat) : DTG := fun d ρ P => P (ρ.set i (.d d))
theorem rdg_name {i : Nat} {vs : List Nat} (h : i ∈ vs) : RdG K T S vs (gName i) (xgName i) := fun v d σ ρ H0 Hb H n P Q w sl hd p q => q _ _ (sl.set hd) (wipe_set h) p
def xgTwo (i j : Nat) : DTG := fun d ρ P => match d with
  | .tup [a, b] => P ((ρ.set i (.d a)).set j (.d b))
  | _ => False
theorem rdg_two {i j : Nat} {vs : List Nat} (h : i ∈ vs) (h' : j ∈ vs) : RdG K T S vs (gTup K 2 (gCons (gName i) (gCons (gName j) gNil))) (xgTwo i j) := fun v d σ ρ H0 Hb H n P Q w sl hd p q => by
  cases hd with
  | @tup a xs ds h1 h2 =>
    cases h2 with
    | nil => exact p.elim
    | @cons v1 vs1 d1 ds1 g1 g2 =>
      cases g2 with
      | nil => exact p.elim
      | @cons v2 vs2 d2 ds2 g3 g4 =>
        cases g4 with
        | cons _ _ => exact p.elim
        | nil => exact ⟨a, [v1, v2], rfl, ex_t w.ex h1, rfl, v1, [v2], rfl, v2, [], rfl, rfl, q _ _ ((sl.set g1).set g3) (by rw [wipe_set h', wipe_set h]) p⟩
  | _ => exact p.elim

/-! ### what is walked -/
/-- J gives the items ds, one by one; an item may be a new object -/
def SrcOk (K : PySem.W.Frag) (J : It) (Hb0 : Hp) (ds : List D) : Prop :=
  ∀ Hb H (i : Nat), Ex Hb0 Hb → Ex Hb H → (ds.length ≤ i → J.stop i H) ∧ ∀ d, ds[i]? = some d → J.go i H ∧ ∀ x H', J.yld i H x H' →
    (H' = H ∧ Dn K Hb x d) ∨ ∃ p o, H p = none ∧ H' = upd H p o ∧ (∀ ps, o ≠ .tbl ps) ∧ Dn K (upd Hb p o) x d
abbrev DTI := List SV → Nat → (List D → Nat → Prop) → DX → Prop
def RdI (K : PySem.W.Frag) (T : Tb) (S : SA) (E : XK) (wi : TI) (F : DTI) : Prop :=
  ∀ σ ρ Hb H n P XP R, World T S Hb H → Slots K S Hb H n ρ σ → F ρ n P XP → (∀ ds n' Hb' H' J, Stp K T S Hb H n Hb' H' n' → SrcOk K J Hb' ds → P ds n' → R J H') → XOk K T S Hb H n XP E → wi σ H R
theorem src_list {a : Addr} {xs : List V} {ds : List D} (h : SqL K Hb a xs) (hd : DnA K Hb xs ds) : SrcOk K (Itl K a) Hb ds := fun Hb1 H1 i e1 e2 => by
  have h1 := ex_l e2 (ex_l e1 h)
  refine ⟨fun hi => ⟨xs, h1, by rw [hd.len]; exact hi⟩, fun d e => ?_⟩
  obtain ⟨v, ev, hv⟩ := hd.get e
  refine ⟨⟨xs, v, h1, ev⟩, fun x H' y => .inl ⟨y.1, ?_⟩⟩
  have z := y.2 xs h1
  rw [ev] at z
  cases z
  exact hv.up e1
theorem src_tup {a : Addr} {xs : List V} {ds : List D} (h : SqT K Hb a xs) (hd : DnA K Hb xs ds) : SrcOk K (Itt K a) Hb ds := fun Hb1 H1 i e1 e2 => by
  have h1 := ex_t e2 (ex_t e1 h)
  refine ⟨fun hi => ⟨xs, h1, by rw [hd.len]; exact hi⟩, fun d e => ?_⟩
  obtain ⟨v, ev, hv⟩ := hd.get e
  refine ⟨⟨xs, v, h1, ev⟩, fun x H' y => .inl ⟨y.1, ?_⟩⟩
  have z := y.2 xs h1
  rw [ev] at z
  cases z
  exact hv.up e1
def rangeD (lo : Int) (m : Nat) : List D := (List.range m).map fun (i : Nat) => D.int (lo + (i : Int))
theorem src_range {lo : Int} {m : Nat} : SrcOk K (Itr lo m) Hb (rangeD lo m) := fun Hb1 H1 i e1 e2 => by
  refine ⟨fun hi => (by unfold rangeD at hi; simpa using hi : m ≤ i), fun d e => ?_⟩
  have hi : i < m := by
    have := (List.getElem?_eq_some_iff.mp e).1
    unfold rangeD at this
    simpa using this
  refine ⟨hi, fun x H' y => .inl ⟨y.1, ?_⟩⟩
  unfold rangeD at e
  rw [List.getElem?_map, List.getElem?_range hi] at e
  cases e
  rw [y.2]
  exact .int _
theorem rdi_list (h1 : DL.Rd K T S E te FE) : RdI K T S E (iList K te) (fun ρ n P XP => FE ρ n (fun d n1 => match d with | .lst xs => P xs n1 | _ => False) XP) := fun σ ρ Hb H n P XP R w sl h q x =>
  h1 σ ρ Hb H n _ XP _ w sl h (fun d v n1 Hb1 H1 s hd p => by
    cases hd with
    | @lst a xs ds g1 g2 => exact ⟨a, rfl, ⟨xs, ex_l s.wd.ex g1⟩, q ds n1 Hb1 H1 _ s (src_list g1 g2) p⟩
    | _ => exact p.elim) x
theorem rdi_tup (h1 : DL.Rd K T S E te FE) : RdI K T S E (iTup K te) (fun ρ n P XP => FE ρ n (fun d n1 => match d with | .tup xs => P xs n1 | _ => False) XP) := fun σ ρ Hb H n P XP R w sl h q x =>
  h1 σ ρ Hb H n _ XP _ w sl h (fun d v n1 Hb1 H1 s hd p => by
    cases hd with
    | @tup a xs ds g1 g2 => exact ⟨a, rfl, ⟨xs, ex_t s.wd.ex g1⟩, q ds n1 Hb1 H1 _ s (src_tup g1 g2) p⟩
    | _ => exact p.elim) x
def xiRange1 (G : DTA) : DTI := fun ρ n P XP => G ρ n (fun ss n1 => match ss with | [.d (.int j)] => j < 2 ^ 62 ∧ -(2 ^ 62) ≤ j ∧ P (rangeD 0 j.toNat) n1 | _ => False) XP
def xiRange2 (G : DTA) : DTI := fun ρ n P XP => G ρ n (fun ss n1 => match ss with | [.d (.int i), .d (.int j)] => (-(2 ^ 62) ≤ i ∧ i < 2 ^ 62 ∧ -(2 ^ 62) ≤ j ∧ j < 2 ^ 62) ∧ P (rangeD i (j - i).toNat) n1 | _ => False) XP
theorem rdi_range1 {ta : TA} {GA : DTA} (h1 : RdA K T S E ta GA) : RdI K T S E (iRng1 ta) (xiRange1 GA) := fun σ ρ Hb H n P XP R w sl h q x =>
  h1 σ ρ Hb H n _ XP _ w sl h (fun ss vs n1 Hb1 H1 s ha p => by
    match ss, ha, p with
    | [.d (.int j)], ha, p =>
      obtain ⟨v, rfl, hv⟩ := Args.one (ss := []) ha
      cases hv
      exact ⟨j, rfl, p.2.1, p.1, q _ n1 Hb1 H1 _ s src_range p.2.2⟩) x
theorem rdi_range2 {ta : TA} {GA : DTA} (h1 : RdA K T S E ta GA) : RdI K T S E (iRng2 ta) (xiRange2 GA) := fun σ ρ Hb H n P XP R w sl h q x =>
  h1 σ ρ Hb H n _ XP _ w sl h (fun ss vs n1 Hb1 H1 s ha p => by
    match ss, ha, p with
    | [.d (.int i), .d (.int j)], ha, p =>
      obtain ⟨v, u, rfl, hv, hu⟩ := Args.two (ss := []) ha
      cases hv
      cases hu
      exact ⟨i, j, rfl, p.1, q _ n1 Hb1 H1 _ s src_range p.2⟩) x
end
end DL

namespace DL
open L2 PySem PySem.Spec PyProof.Rows
open Evl (Ex ex_l ex_t sz_of)
section
variable {K : PySem.W.Frag} {T : Tb} {S : SA} {E : XK} {Hb H Hb1 H1 : Hp} {n n1 : Nat} {te : TE} {FE : DT}
/-! ### zip of two lists, of two tuples -/
def zipD (xs ys : List D) : List D := (xs.zip ys).map fun p => D.tup [p.1, p.2]
theorem zipD_get {xs ys : List D} {i : Nat} {d : D} (h : (zipD xs ys)[i]? = some d) : ∃ x y, xs[i]? = some x ∧ ys[i]? = some y ∧ d = .tup [x, y] := by
  unfold zipD at h
  rw [List.getElem?_map] at h
  cases e : (xs.zip ys)[i]? with
  | none => rw [e] at h; cases h
  | some p =>
    rw [e] at h
    cases h
    rw [List.getElem?_zip_eq_some] at e
    exact ⟨p.1, p.2, e.1, e.2, rfl⟩
theorem src_zipL {a b : Addr} {xs ys : List V} {ds es : List D} (h : SqL K Hb a xs) (hd : DnA K Hb xs ds) (g : SqL K Hb b ys) (gd : DnA K Hb ys es) : SrcOk K (Itz K a b) Hb (zipD ds es) := fun Hb1 H1 i e1 e2 => by
  have h1 := ex_l e2 (ex_l e1 h)
  have g1 := ex_l e2 (ex_l e1 g)
  refine ⟨fun hi => ⟨xs, ys, h1, g1, ?_⟩, fun d e => ?_⟩
  · unfold zipD at hi
    rw [List.length_map, List.length_zip] at hi
    rw [hd.len, gd.len]
    omega
  · obtain ⟨x, y, ex, ey, rfl⟩ := zipD_get e
    obtain ⟨v, ev, hv⟩ := hd.get ex
    obtain ⟨u, eu, hu⟩ := gd.get ey
    refine ⟨⟨xs, ys, v, u, h1, g1, ev, eu⟩, fun z H' q => ?_⟩
    obtain ⟨p, x', y', rfl, hp, rfl, f1, f2⟩ := q
    have z1 := f1 xs h1
    have z2 := f2 ys g1
    rw [ev] at z1
    rw [eu] at z2
    cases z1
    cases z2
    have ex := Ex.new (o := .tup [v, u]) (free_of e2 hp)
    exact .inr ⟨p, _, hp, rfl, (fun _ z => by cases z), .tup (SqT.of upd_same) (.cons ((hv.up e1).up ex) (.cons ((hu.up e1).up ex) .nil))⟩
theorem src_zipT {a b : Addr} {xs ys : List V} {ds es : List D} (h : SqT K Hb a xs) (hd : DnA K Hb xs ds) (g : SqT K Hb b ys) (gd : DnA K Hb ys es) : SrcOk K (RZ.ItzT K a b) Hb (zipD ds es) := fun Hb1 H1 i e1 e2 => by
  have h1 := ex_t e2 (ex_t e1 h)
  have g1 := ex_t e2 (ex_t e1 g)
  refine ⟨fun hi => ⟨xs, ys, h1, g1, ?_⟩, fun d e => ?_⟩
  · unfold zipD at hi
    rw [List.length_map, List.length_zip] at hi
    rw [hd.len, gd.len]
    omega
  · obtain ⟨x, y, ex, ey, rfl⟩ := zipD_get e
    obtain ⟨v, ev, hv⟩ := hd.get ex
    obtain ⟨u, eu, hu⟩ := gd.get ey
    refine ⟨⟨xs, ys, v, u, h1, g1, ev, eu⟩, fun z H' q => ?_⟩
    obtain ⟨p, x', y', rfl, hp, rfl, f1, f2⟩ := q
    have z1 := f1 xs h1
    have z2 := f2 ys g1
    rw [ev] at z1
    rw [eu] at z2
    cases z1
    cases z2
    have ex := Ex.new (o := .tup [v, u]) (free_of e2 hp)
    exact .inr ⟨p, _, hp, rfl, (fun _ z => by cases z), .tup (SqT.of upd_same) (.cons ((hv.up e1).up ex) (.cons ((hu.up e1).up ex) .nil))⟩
def xiZip (G : DTA) : DTI := fun ρ n P XP => G ρ n (fun ss n1 => match ss with
  | [.d (.lst xs), .d (.lst ys)] => P (zipD xs ys) n1
  | [.d (.tup xs), .d (.tup ys)] => P (zipD xs ys) n1
  | _ => False) XP
theorem rdi_zip {ta : TA} {GA : DTA} (h1 : RdA K T S E ta GA) : RdI K T S E (RZ.iZipA K ta) (xiZip GA) := fun σ ρ Hb H n P XP R w sl h q x =>
  h1 σ ρ Hb H n _ XP _ w sl h (fun ss vs n1 Hb1 H1 s ha p => by
    match ss, ha, p with
    | [.d (.lst xs), .d (.lst ys)], ha, p =>
      obtain ⟨v, u, rfl, hv, hu⟩ := Args.two (ss := []) ha
      cases hv with
      | @lst a as ds g1 g2 =>
        cases hu with
        | @lst b bs es g3 g4 => exact ⟨a, b, as, bs, rfl, .inl ⟨ex_l s.wd.ex g1, ex_l s.wd.ex g3, q _ n1 Hb1 H1 _ s (src_zipL g1 g2 g3 g4) p⟩⟩
    | [.d (.tup xs), .d (.tup ys)], ha, p =>
      obtain ⟨v, u, rfl, hv, hu⟩ := Args.two (ss := []) ha
      cases hv with
      | @tup a as ds g1 g2 =>
        cases hu with
        | @tup b bs es g3 g4 => exact ⟨a, b, as, bs, rfl, .inr ⟨ex_t s.wd.ex g1, ex_t s.wd.ex g3, q _ n1 Hb1 H1 _ s (src_zipT g1 g2 g3 g4) p⟩⟩) x

/-- an item's step -/
theorem item_step {x : V} {d : D} {H' : Hp} (w : World T S Hb H) (h : (H' = H ∧ Dn K Hb x d) ∨ ∃ p o, H p = none ∧ H' = upd H p o ∧ (∀ ps, o ≠ .tbl ps) ∧ Dn K (upd Hb p o) x d) : ∃ Hb', Stp K T S Hb H n Hb' H' n ∧ Dn K Hb' x d := by
  rcases h with ⟨rfl, h⟩ | ⟨p, o, hp, rfl, ho, h⟩
  · exact ⟨Hb, .refl w, h⟩
  · exact ⟨_, .new w hp ho, h⟩

/-! ### for -/
def xsFor (FI : DTI) (G : DTG) (B : DTS) : DTS := fun DD ρ n XP => FI ρ n (fun xs n1 => ∃ I : Nat → List SV → Nat → Prop, I 0 ρ n1 ∧
  (∀ i x ρ n, xs[i]? = some x → I i ρ n → G x ρ fun ρ2 => B { DD with nx := I (i + 1), ct := I (i + 1), bk := DD.nx } ρ2 n XP) ∧ ∀ ρ n, I xs.length ρ n → DD.nx ρ n) XP
theorem rds_for {wi : TI} {g : TG} {tb : TS} {FI : DTI} {G : DTG} {B : DTS} {vs : List Nat} (hi : RdI K T S E wi FI) (hg : RdG K T S vs g G) (hb : RdS K T S E tb B) : RdS K T S E (tFor wi g tb) (xsFor FI G B) := fun σ ρ Hb0 H0 n0 Hb H n DD XP D a sl h q x =>
  hi σ ρ Hb H n _ XP _ a.wd sl.sl h (fun xs n1 Hb1 H1 J s src p => by
    obtain ⟨I, i0, it, ie⟩ := p
    have b := a.trans s
    -- what is frozen at the loop's start stays
    refine ⟨fun i m σ2 H2 => m = xs.length - i ∧ i ≤ xs.length ∧ ∃ ρ2 n2 Hb2, Ex Hb1 Hb2 ∧ Stp K T S Hb0 H0 n0 Hb2 H2 n2 ∧ Sl0 K S H0 Hb2 H2 n2 ρ2 σ2 ∧ I i ρ2 n2, ⟨xs.length, rfl, Nat.zero_le _, ρ, n1, Hb1, Ex.refl _, b, sl.step s, i0⟩, ?_⟩
    rintro i m σ2 H2 ⟨rfl, hi2, ρ2, n2, Hb2, e2, s2, sl2, hI⟩
    obtain ⟨stop, go⟩ := src Hb2 H2 i e2 s2.wd.ex
    by_cases hlt : i < xs.length
    · have ex : xs[i]? = some xs[i] := List.getElem?_eq_getElem hlt
      obtain ⟨hgo, hy⟩ := go _ ex
      refine .inr ⟨hgo, fun σ' H' => ∃ ρ' n' Hb', Ex Hb1 Hb' ∧ Stp K T S Hb0 H0 n0 Hb' H' n' ∧ Sl0 K S H0 Hb' H' n' ρ' σ' ∧ I (i + 1) ρ' n', fun σ' H' hN => ⟨xs.length - (i + 1), by omega, rfl, hlt, hN⟩, fun v H' y => ?_⟩
      obtain ⟨Hb3, s3, hv⟩ := item_step (K := K) (n := n2) s2.wd (hy v H' y)
      refine hg v _ σ2 ρ2 H0 Hb3 H' n2 _ _ s3.wd (sl2.step s3) hv (it i _ ρ2 n2 ex hI) fun ρ3 σ3 sl3 _ hB => ?_
      have e3 := e2.trans s3.ex
      exact hb σ3 ρ3 Hb0 H0 n0 Hb3 H' n2 _ XP _ (s2.trans s3) sl3 hB ⟨fun ρ4 σ4 n4 Hb4 H4 e4 s4 sl4 p4 => ⟨ρ4, n4, Hb4, e3.trans e4, s4, sl4, p4⟩, q.rt, q.nx.up (s.ex.trans e3), fun ρ4 σ4 n4 Hb4 H4 e4 s4 sl4 p4 => ⟨ρ4, n4, Hb4, e3.trans e4, s4, sl4, p4⟩⟩ x
    · have e : i = xs.length := by omega
      subst e
      exact .inl ⟨stop (Nat.le_refl _), q.nx ρ2 σ2 n2 Hb2 H2 (s.ex.trans e2) s2 sl2 (ie ρ2 n2 hI)⟩) (x.step a)

/-! ### comprehensions -/
def compM (step : D → Nat → (Option D → Nat → Prop) → Prop) : List D → Nat → (List D → Nat → Prop) → Prop
  | [], n, P => P [] n
  | x :: xs, n, P => step x n fun o n' => compM step xs n' fun ds n'' => P (match o with | some d => d :: ds | none => ds) n''
def xtYes : DTT := fun _ n P _ => P true n
theorem rdt_yes {E : XK} : RdT K T S E tYes xtYes := fun σ ρ Hb H n P XP Q w sl h q x => q true n Hb H (.refl w) h
theorem wipe_wipe {σ : L2.St} {vs : List Nat} : wipe (wipe σ vs) vs = wipe σ vs := by
  have z : ∀ ws : List Nat, (∀ i ∈ ws, i ∈ vs) → wipe (wipe σ ws) vs = wipe σ vs := by
    intro ws
    induction ws with
    | nil => intro _; rfl
    | cons w ws ih =>
      intro h
      show wipe ((wipe σ ws).set w none) vs = wipe σ vs
      rw [wipe_set (h w List.mem_cons_self), ih fun i hi => h i (List.mem_cons_of_mem _ hi)]
  exact z vs fun _ h => h
/-- what gives a new list, not frozen yet -/
abbrev DTL := List SV → Nat → (List D → Nat → Prop) → DX → Prop
def RdN (K : PySem.W.Frag) (T : Tb) (S : SA) (E : XK) (te : TE) (F : DTL) : Prop :=
  ∀ σ ρ Hb H n P XP (Q : VK), World T S Hb H → Slots K S Hb H n ρ σ → F ρ n P XP →
    (∀ ds p vs n' Hb' H', Stp K T S Hb H n Hb' H' n' → Fresh H p → H' p = some (.lst vs) → Hb' p = none → DnA K Hb' vs ds → P ds n' → Q (.ref p) H') → XOk K T S Hb H n XP E → te σ H Q
def xnLc (FI : DTI) (G : DTG) (FT : DTT) (FE : DT) (vs : List Nat) : DTL := fun ρ n P XP => FI ρ n (fun xs n1 => xs.length ≤ 100000 ∧
  compM (fun x n2 k => G x (wipeS ρ vs) fun ρ2 => FT ρ2 n2 (fun b n3 => match b with | true => FE ρ2 n3 (fun d n4 => k (some d) n4) xF | false => k none n3) xF) xs n1 P) XP
/-- J gives the items while steps of ours are made -/
def SrcJ (K : PySem.W.Frag) (T : Tb) (S : SA) (J : It) (Hb0 H0 : Hp) (n0 : Nat) (ds : List D) : Prop :=
  ∀ Hb H n (i : Nat), Stp K T S Hb0 H0 n0 Hb H n → (ds.length ≤ i → J.stop i H) ∧ ∀ d, ds[i]? = some d → J.go i H ∧ ∀ x H', J.yld i H x H' →
    (H' = H ∧ Dn K Hb x d) ∨ ∃ p o, H p = none ∧ H' = upd H p o ∧ (∀ ps, o ≠ .tbl ps) ∧ Dn K (upd Hb p o) x d
def RdJ (K : PySem.W.Frag) (T : Tb) (S : SA) (E : XK) (wi : TI) (F : DTI) : Prop :=
  ∀ σ ρ Hb H n P XP R, World T S Hb H → Slots K S Hb H n ρ σ → F ρ n P XP → (∀ ds n' Hb' H' J, Stp K T S Hb H n Hb' H' n' → SrcJ K T S J Hb' H' n' ds → P ds n' → R J H') → XOk K T S Hb H n XP E → wi σ H R
theorem rdj_of {wi : TI} {F : DTI} (h : RdI K T S E wi F) : RdJ K T S E wi F := fun σ ρ Hb H n P XP R w sl hf q x =>
  h σ ρ Hb H n P XP R w sl hf (fun ds n' Hb' H' J s src p => q ds n' Hb' H' J s (fun Hb2 H2 n2 i s2 => src Hb2 H2 i s2.ex s2.wd.ex) p) x
/-- over a list of one's own -/
def xjOwn (i : Nat) : DTI := fun ρ n P _ => match ρ[i]? with
  | some (.ol xs) => P xs n
  | _ => False
theorem rdj_own {i : Nat} : RdJ K T S E (iList K (tVar i)) (xjOwn i) := fun σ ρ Hb H n P XP R w sl h q x => by
  unfold xjOwn at h
  split at h
  · rename_i xs e
    obtain ⟨o, e1, p, vs, e2, e3, e4, e5, e6, _, e7⟩ := sl.ok i _ e
    refine ⟨.ref p, by rw [e1, e2], p, rfl, ⟨vs, SqL.of e3⟩, q xs n Hb H _ (.refl w) (fun Hb2 H2 n2 j s2 => ?_) h⟩
    obtain ⟨g1, g2⟩ := s2.own p _ e3 e4 e5 e6 (fun ps z => by cases z)
    have h7 := e7.up s2.ex
    refine ⟨fun hj => ⟨vs, SqL.of g1, by rw [h7.len]; exact hj⟩, fun d ed => ?_⟩
    obtain ⟨v, ev, hv⟩ := h7.get ed
    refine ⟨⟨vs, v, SqL.of g1, ev⟩, fun y H' yy => .inl ⟨yy.1, ?_⟩⟩
    have z := yy.2 vs (SqL.of g1)
    rw [ev] at z
    cases z
    exact hv
  · exact h.elim
theorem rdn_lc {wi : TI} {g : TG} {tt : TT} {FI : DTI} {G : DTG} {FT : DTT} {vs : List Nat} (hi : RdJ K T S E wi FI) (hg : RdG K T S vs g G) (ht : RdT K T S E0 tt FT) (he : DL.Rd K T S E0 te FE) : RdN K T S E (tLc wi g tt te vs) (xnLc FI G FT FE vs) := fun σ ρ Hb H n P XP Q w sl h q x =>
  hi σ ρ Hb H n _ XP _ w sl h (fun xs n1 Hb1 H1 J s src p => by
    obtain ⟨hlen, p⟩ := p
    intro L hL
    have nSa : L ≠ S.a := s.wd.sa.ne (fresh_none hL)
    have nSl : L ≠ S.l := s.wd.sl.ne (fresh_none hL)
    have nSc : L ≠ S.c := s.wd.sc.ne (fresh_none hL)
    refine ⟨fun i m H2 => m = xs.length - i ∧ i ≤ xs.length ∧ ∃ n2 Hb2 accV acc, Stp K T S Hb1 H1 n1 Hb2 H2 n2 ∧ H2 L = some (.lst accV) ∧ Hb2 L = none ∧ DnA K Hb2 accV acc ∧ acc.length ≤ i ∧
      compM (fun x n2 k => G x (wipeS ρ vs) fun ρ2 => FT ρ2 n2 (fun b n3 => match b with | true => FE ρ2 n3 (fun d n4 => k (some d) n4) xF | false => k none n3) xF) (xs.drop i) n2 fun ds n5 => P (acc ++ ds) n5,
      ⟨xs.length, rfl, Nat.zero_le _, n1, Hb1, [], [], .newO s.wd hL, upd_same, free_of s.wd.ex hL, .nil, Nat.le_refl _, p⟩, ?_⟩
    rintro i m H2 ⟨rfl, hi2, n2, Hb2, accV, acc, s2, eL, fL, hacc, la, hc⟩
    obtain ⟨stop, go⟩ := src Hb2 H2 n2 i s2
    by_cases hlt : i < xs.length
    · have ex : xs[i]? = some xs[i] := List.getElem?_eq_getElem hlt
      obtain ⟨hgo, hy⟩ := go _ ex
      have ed : xs.drop i = xs[i] :: xs.drop (i + 1) := List.drop_eq_getElem_cons hlt
      rw [ed] at hc
      refine .inr ⟨hgo, fun H' => ∃ n' Hb' accV acc, Stp K T S Hb1 H1 n1 Hb' H' n' ∧ H' L = some (.lst accV) ∧ Hb' L = none ∧ DnA K Hb' accV acc ∧ acc.length ≤ i + 1 ∧
        compM (fun x n2 k => G x (wipeS ρ vs) fun ρ2 => FT ρ2 n2 (fun b n3 => match b with | true => FE ρ2 n3 (fun d n4 => k (some d) n4) xF | false => k none n3) xF) (xs.drop (i + 1)) n' fun ds n5 => P (acc ++ ds) n5,
        fun H' hN => ⟨xs.length - (i + 1), by omega, rfl, hlt, hN⟩, fun v H' y => ?_⟩
      obtain ⟨Hb3, s3, hv⟩ := item_step (n := n2) s2.wd (hy v H' y)
      have st3 := s2.trans s3
      have sl3 : Sl0 K S (fun _ => none) Hb3 H' n2 (wipeS ρ vs) (wipe σ vs) := ⟨((sl.step s).step st3).wiped vs, fun _ _ _ _ _ _ => fresh_none rfl⟩
      have ne : ∀ ps, HO.lst accV ≠ .tbl ps := fun ps z => by cases z
      refine hg v _ (wipe σ vs) (wipeS ρ vs) _ Hb3 H' n2 _ _ s3.wd sl3 hv hc fun ρ4 σ4 sl4 hw hT => ⟨hw.trans wipe_wipe, ?_⟩
      obtain ⟨eL3, fL3⟩ := s3.own L _ eL fL nSa nSl ne
      refine ht σ4 ρ4 Hb3 H' n2 _ xF _ s3.wd sl4.sl hT (fun b n4 Hb4 H4 s4 p4 => ?_) XOk.none
      obtain ⟨eL4, fL4⟩ := s4.own L _ eL3 fL3 nSa nSl ne
      have hacc4 := (hacc.up s3.ex).up s4.ex
      cases b with
      | false => exact iteF ⟨n4, Hb4, accV, acc, st3.trans s4, eL4, fL4, hacc4, Nat.le_succ_of_le la, p4⟩
      | true =>
        refine iteT ?_
        refine he σ4 ρ4 Hb4 H4 n4 _ xF _ s4.wd (sl4.sl.step s4) p4 (fun d u n5 Hb5 H5 s5 hu p5 => ?_) XOk.none
        obtain ⟨eL5, fL5⟩ := s5.own L _ eL4 fL4 nSa nSl ne
        have hacc5 := hacc4.up s5.ex
        have w5 := s5.wd
        have st5 := (st3.trans s4).trans s5
        have nT : ∀ q ∈ T, q.1 ≠ L := fun q hq z => by
          obtain ⟨ps, e, _⟩ := w5.tabs q hq
          rw [z, eL5] at e
          cases e
        refine ⟨accV, eL5, ?_, n5, Hb5, accV ++ [u], acc ++ [d], ?_, upd_same, fL5, hacc5.app (.one hu), by simp; omega, ?_⟩
        · rw [hacc5.len]
          exact Nat.lt_of_le_of_lt la (Nat.lt_of_lt_of_le hlt (sz_of hlen))
        · -- the list has grown
          refine ⟨st5.ex, ⟨fun b o e => ?_, fun q hq => ?_, w5.tb, ?_, ?_, ?_, w5.nt⟩, fun h0 => ?_, fun b o e1 e2 e3 e4 e5 => ?_, fun b e => st5.dm b (dm_upd (fun _ z => by cases z) b e)⟩
          · rw [upd_ne (fun z => by rw [z, fL5] at e; cases e)]
            exact w5.ex b o e
          · obtain ⟨ps, e, t1, t2⟩ := w5.tabs q hq
            refine ⟨ps, by rw [upd_ne (nT q hq)]; exact e, t1, fun pos cv hcv => ?_⟩
            obtain ⟨c, e1, e2⟩ := t2 pos cv hcv
            refine ⟨c, e1, ?_⟩
            rw [upd_ne (fun z => by rw [z, eL5] at e2; unfold LamX.CodeO at e2; cases e2)]
            exact e2
          · exact w5.sa.upd fun _ z => by cases z
          · exact w5.sl.upd fun _ z => by cases z
          · exact w5.sc.upd fun _ z => by cases z
          · obtain ⟨g1, g2, ls, cs, mm, t, g3, g4, g5, g6, g7, g8, rest⟩ := st5.st h0
            exact ⟨g1, g2, ls, cs, mm, t, g3, g4, g5, by rw [upd_ne nSa.symm]; exact g6, by rw [upd_ne nSl.symm]; exact g7, g8, rest⟩
          · have hb : b ≠ L := ne_of_none e1 hL
            rw [upd_ne hb]
            exact st5.own0 b o e1 e2 e3 e4 e5
        · have e6 : ∀ ds, (acc ++ [d]) ++ ds = acc ++ (d :: ds) := fun ds => by simp
          simp only [e6]
          exact p5
    · have e : i = xs.length := by omega
      subst e
      refine .inl ⟨stop (Nat.le_refl _), ?_⟩
      rw [List.drop_length] at hc
      have hc : P (acc ++ []) n2 := hc
      rw [List.append_nil] at hc
      exact q acc L accV n2 Hb2 H2 (s.trans s2) (s.dm L (fresh_none hL)) eL fL hacc hc) x

/-- an object of one's own is written, then frozen -/
theorem Stp.freeze {p : Addr} {o : HO} (s : Stp K T S Hb H n Hb1 H1 n1) (hp : Fresh H p) (fp : Hb1 p = none) (hx : H1 p ≠ none) (nt : ∀ ps, H1 p ≠ some (.tbl ps)) (nc : ∀ c q, H1 p ≠ some (LamX.CodeO c q)) (na : p ≠ S.a) (nl : p ≠ S.l) (nc2 : p ≠ S.c) (ho : ∀ ps, o ≠ .tbl ps := by intro _ z; cases z) : Stp K T S Hb H n (upd Hb1 p o) (upd H1 p o) n1 := by
  have w := s.wd
  refine ⟨s.ex.trans (Ex.new fp), ⟨fun b u e => ?_, fun q hq => ?_, fun q hq => ?_, ?_, ?_, ?_, nt_upd w.nt ho⟩, fun h0 => ?_, fun b u e1 e2 e3 e4 e5 => ?_, fun b e => s.dm b (dm_upd ho b e)⟩
  · by_cases hb : b = p
    · rw [hb, upd_same] at e ⊢
      exact e
    · rw [upd_ne hb] at e ⊢
      exact w.ex b u e
  · obtain ⟨ps, e, t1, t2⟩ := w.tabs q hq
    refine ⟨ps, by rw [upd_ne (fun z => nt ps (by rw [← z]; exact e))]; exact e, t1, fun pos cv hcv => ?_⟩
    obtain ⟨c, e1, e2⟩ := t2 pos cv hcv
    exact ⟨c, e1, by rw [upd_ne (fun z => nc c q.2 (by rw [← z]; exact e2))]; exact e2⟩
  · obtain ⟨ps, e, _⟩ := w.tabs q hq
    rw [upd_ne (fun z => nt ps (by rw [← z]; exact e))]
    exact w.tb q hq
  · exact w.sa.upd ho
  · exact w.sl.upd ho
  · exact w.sc.upd ho
  · obtain ⟨g1, g2, ls, cs, m, t, g3, g4, g5, g6, g7, g8, rest⟩ := s.st h0
    exact ⟨by rw [upd_ne na.symm]; exact g1, by rw [upd_ne nl.symm]; exact g2, ls, cs, m, t, g3, g4, g5, by rw [upd_ne na.symm]; exact g6, by rw [upd_ne nl.symm]; exact g7, by rw [upd_ne nc2.symm]; exact g8, rest⟩
  · have hb : b ≠ p := hp.ne e1 e5
    rw [upd_ne hb, upd_ne hb]
    exact s.own0 b u e1 e2 e3 e4 e5
theorem World.nS (w : World T S Hb H) {p : Addr} (hp : Fresh H p) : p ≠ S.a ∧ p ≠ S.l ∧ p ≠ S.c := ⟨w.sa.ne hp, w.sl.ne hp, w.sc.ne hp⟩
theorem codeO_no {c : Addr} {q : Str} {o : HO} (h : ∀ φ, o ≠ .ext φ) : o ≠ LamX.CodeO c q := fun z => by
  unfold LamX.CodeO at z
  exact h _ z
theorem rd_of_new {F : DTL} (h : RdN K T S E te F) : DL.Rd K T S E te (fun ρ n P XP => F ρ n (fun ds n1 => P (.lst ds) n1) XP) := fun σ ρ Hb H n P XP Q w sl hf q x =>
  h σ ρ Hb H n _ XP Q w sl hf (fun ds p vs n' Hb' H' s hp e1 e2 hd pp => by
    obtain ⟨n1, n2, n3⟩ := w.nS hp
    have z := s.freeze (o := .lst vs) hp e2 (by rw [e1]; exact fun z => by cases z) (fun ps z => by rw [e1] at z; cases z) (fun c u z => by rw [e1] at z; exact codeO_no (o := .lst vs) (fun _ z => by cases z) (Option.some.inj z)) n1 n2 n3
    have e : upd H' p (.lst vs) = H' := by
      funext b
      by_cases hb : b = p
      · rw [hb, upd_same, e1]
      · rw [upd_ne hb]
    rw [e] at z
    exact q _ _ n' _ _ z (.lst (SqL.of upd_same) (hd.up (Ex.new e2))) pp) x
def xLc (FI : DTI) (G : DTG) (FT : DTT) (FE : DT) (vs : List Nat) : DT := fun ρ n P XP => xnLc FI G FT FE vs ρ n (fun ds n1 => P (.lst ds) n1) XP
theorem rd_lc {wi : TI} {g : TG} {tt : TT} {FI : DTI} {G : DTG} {FT : DTT} {vs : List Nat} (hi : RdJ K T S E wi FI) (hg : RdG K T S vs g G) (ht : RdT K T S E0 tt FT) (he : DL.Rd K T S E0 te FE) : DL.Rd K T S E (tLc wi g tt te vs) (xLc FI G FT FE vs) := rd_of_new (rdn_lc hi hg ht he)
/-- y = [..], a list of one's own -/
def xsSetO (i : Nat) (F : DTL) : DTS := fun DD ρ n XP => F ρ n (fun ds n1 => DD.nx (ρ.set i (.ol ds)) n1) XP
end
end DL

namespace DL
open L2 PySem PySem.Spec PyProof.Rows
open Evl (Ex ex_l ex_t sz_of)
section
variable {K : PySem.W.Frag} {T : Tb} {S : SA} {E : XK} {Hb H Hb1 H1 : Hp} {n n1 : Nat} {te : TE} {FE : DT} {X : Cx}
/-! ### e.f -/
def fldD : List Str → List D → Str → Option D
  | k :: ks, d :: ds, f => if k = f then some d else fldD ks ds f
  | _, _, _ => none
theorem fld_of : ∀ {fs : List (Str × V)} {ns : List Str} {ds : List D} {f : Str} {d : D}, fs.map (·.1) = ns → DnA K H (fs.map (·.2)) ds → fldD ns ds f = some d → ∃ v, fs.lookup f = some v ∧ Dn K H v d
  | [], _, ds, f, d, e, h, g => by
    subst e
    unfold fldD at g
    simp at g
  | (k, v) :: fs, _, ds, f, d, e, h, g => by
    subst e
    cases h with
    | @cons _ _ d0 ds0 h1 h2 =>
      have g : (if k = f then some d0 else fldD (fs.map (·.1)) ds0 f) = some d := g
      by_cases hk : k = f
      · rw [if_pos hk] at g
        cases g
        subst hk
        exact ⟨v, by simp, h1⟩
      · rw [if_neg hk] at g
        obtain ⟨v', e2, h3⟩ := fld_of (ns := fs.map (·.1)) rfl h2 g
        refine ⟨v', ?_, h3⟩
        have hk' : (f == k) = false := by simpa using Ne.symm hk
        rw [List.lookup_cons, hk']
        exact e2
def xFld (K : PySem.W.Frag) (f : Str) (F : DT) : DT := fun ρ n P XP => F ρ n (fun d n1 => match d with
  | .ins C ns ds => NoAttr K C f ∧ ∃ x, fldD ns ds f = some x ∧ P x n1
  | _ => False) XP
theorem rd_fld {f : Str} (h1 : DL.Rd K T S E te FE) : DL.Rd K T S E (tFld K te f) (xFld K f FE) := fun σ ρ Hb H n P XP Q w sl h q x =>
  h1 σ ρ Hb H n _ XP _ w sl h (fun d v n1 Hb1 H1 s hd p => by
    cases hd with
    | @ins a C dx fs ns ds hc g1 g2 g3 =>
      obtain ⟨hn, y, e, p⟩ := p
      obtain ⟨v, e2, hv⟩ := fld_of g2 g3 e
      exact ⟨a, C, dx, fs, v, rfl, s.wd.ex _ _ g1, hc.cl, hn, e2, q _ _ n1 Hb1 H1 s hv p⟩
    | _ => exact p.elim) x
/-! ### isinstance -/
def tyD : D → Value
  | .non => .type "NoneType"
  | .bl _ => .type "bool"
  | .int _ => .type "int"
  | .str _ => .type "str"
  | .lst _ => .type "list"
  | .tup _ => .type "tuple"
  | .dic _ _ => .type "dict"
  | .ins C _ _ => .ref C
  | .exc C _ _ => .ref C
  | .fnv _ => .none
  | .dit _ _ => .none
  | .lam _ => .none
def rIsD (K : PySem.W.Frag) : List V → Hp → VK → Prop := fun xs H Q => rIsi K xs H Q ∨
  ∃ (a C : Addr) (od : Option Addr) (c : V) (u : Value) (b : Bool), xs = [.ref a, c] ∧ ClsV c u ∧ H a = some (ExT C od a) ∧ (∀ dd, od = some dd → ∃ o, H dd = some o) ∧ ExcC K C ∧ PySem.W.kitOne K (.ref C) u = some b ∧ Q (.bl b) H
theorem call_isD : CallR X (.builtin "isinstance") (rIsD X.K) := by
  refine CallR.or call_isi ?_
  intro pins s σ H xs us Q I r h
  obtain ⟨a, C, od, c, u, b, rfl, k, ha, hod, hc, e, q⟩ := h
  obtain ⟨u1, u2, rfl, r1, r2⟩ := vals2 r
  have e2 := k.eq r2
  subst e2
  cases r1
  obtain ⟨⟨oe, vs, h1, ⟨h2, h3⟩, h4⟩, _, _⟩ := I.hok a _ ha
  have hcl : (PySem.W.clsIn X.K C).isSome = true := by
    have z := hc.hd
    unfold PySem.W.hasDictIn at z
    cases q : PySem.W.clsIn X.K C with
    | none => rw [q] at z; cases z
    | some _ => rfl
  have J : ∃ oo, PySem.W.InstAt s.heap a oe C oo := by
    obtain ⟨oc, odd, oda, osl⟩ := oe
    dsimp only at h2 h3 h4
    subst h2 h3 h4
    cases odd with
    | none => exact ⟨none, h1, rfl, rfl, trivial⟩
    | some dd =>
      obtain ⟨o, ho⟩ := hod dd rfl
      obtain ⟨oo, hoo⟩ := objOk_get (I.hok dd o ho)
      exact ⟨some oo, h1, rfl, rfl, hoo⟩
  obtain ⟨oo, J⟩ := J
  exact PySem.W.kia_one (PySem.W.kitx_exc hcl hc.hg hc.hk hc.hs hc.ha hc.hn hc.ht hc.hm) I.kIn J e (fun z => nomatch z) fun tk => ⟨.bl b, H, I.kept (t' := tk) fun _ _ z => z, rfl, q⟩
theorem TyX.of {v : V} {d : D} (h : Dn K H v d) (he : ∀ C ns ds, d ≠ .exc C ns ds) (hf : ∀ f, d ≠ .fnv f) (hg : ∀ ks ds, d ≠ .dit ks ds) (hl : ∀ F, d ≠ .lam F := by intro _ z; cases z) : TyX K H v (tyD d) := by
  cases h with
  | non => exact .base .non
  | bl b => exact .base (.bl b)
  | int i => exact .base (.int i)
  | str i => exact .base (.str i)
  | lst h1 h2 =>
    rcases h1 with (h1 | ⟨o, h1⟩) | ⟨o, its, m, h1, h3, _⟩
    · exact .base (.lst h1)
    · exact .base (.frz h1)
    · exact .kList h1 h3
  | tup h1 h2 =>
    rcases h1 with (h1 | ⟨o, h1⟩) | ⟨o, its, m, h1, h3, _⟩
    · exact .base (.tup h1)
    · exact .fTuple h1
    · exact .kTuple h1 h3
  | dic h1 h2 h3 => exact .base (.dK h1)
  | ins hc h1 h2 h3 => exact .base (.ins h1 hc.cl hc.ha hc.hn hc.ht hc.hm)
  | exc hc ht h1 h2 h3 h4 => exact (he _ _ _ rfl).elim
  | fnv f => exact (hf _ rfl).elim
  | dit _ _ _ => exact (hg _ _ rfl).elim
  | lam _ _ => exact (hl _ rfl).elim
/-- an exception without fields, for isinstance -/
def bareD : D → Prop
  | .fnv _ => False
  | .dit _ _ => False
  | .lam _ => False
  | _ => True
def xIs (K : PySem.W.Frag) (c : Value) (F : DT) : DT := fun ρ n P XP => F ρ n (fun d n1 => bareD d ∧ ∃ b, PySem.W.kitOne K (tyD d) c = some b ∧ P (.bl b) n1) XP
theorem rd_is {cv : V} {cu : Value} (hc : ClsV cv cu) (h1 : DL.Rd K T S E te FE) : DL.Rd K T S E (tCB (rIsD K) (tCons te (tCons (tC cv) tNil))) (xIs K cu FE) := fun σ ρ Hb H n P XP Q w sl h q x =>
  h1 σ ρ Hb H n _ XP _ w sl h (fun d v n1 Hb1 H1 s hd p => by
    obtain ⟨hb, b, e, p⟩ := p
    have fin : Q (.bl b) H1 := q _ _ n1 Hb1 H1 s (.bl b) p
    have hd1 := s.wd.dn hd
    show rIsD K [v, cv] H1 Q
    cases d with
    | exc C ns ds =>
      cases hd1 with
      | @exc a C od fs ns ds hC hT g1 g0 g2 g3 =>
        refine .inr ⟨a, C, od, cv, cu, b, rfl, hc, g1, fun dd ed => ?_, hC, e, fin⟩
        rcases g0 with g0 | ⟨d2, g0, hne, g4⟩
        · rw [g0.1] at ed
          cases ed
        · rw [g0] at ed
          cases ed
          exact ⟨_, g4⟩
    | fnv f => exact hb.elim
    | dit _ _ => exact hb.elim
    | lam _ => exact hb.elim
    | _ => exact .inl ⟨v, cv, _, cu, b, rfl, hc, TyX.of hd1 (fun _ _ _ z => by cases z) (fun _ z => by cases z) (fun _ _ z => by cases z), e, fin⟩) x

/-- isinstance of a built-in class -/
def isTy (t : String) : D → Bool
  | .int _ => t == "int"
  | .bl _ => t == "bool" || t == "int"
  | .str _ => t == "str"
  | .tup _ => t == "tuple"
  | .lst _ => t == "list"
  | .dic _ _ => t == "dict"
  | _ => false
theorem kit_isTy {t : String} (ht : t ∈ ["int", "bool", "str", "tuple", "list", "dict"]) {v : V} {d : D} (h : Dn K H v d) (hb : bareD d) : PySem.W.kitOne K (tyD d) (.type t) = some (isTy t d) := by
  have B : ∀ (a : String), kitB a t = some (if a = "NoneType" then false else if a = "bool" then (t == "bool" || t == "int") else t == a) → PySem.W.kitOne K (.type a) (.type t) = some (if a = "NoneType" then false else if a = "bool" then (t == "bool" || t == "int") else t == a) := fun a e => kit_ty e
  have hB : ∀ a ∈ ["NoneType", "int", "bool", "str", "tuple", "list", "dict"], ∀ t ∈ ["int", "bool", "str", "tuple", "list", "dict"], kitB a t = some (if a = "NoneType" then false else if a = "bool" then (t == "bool" || t == "int") else t == a) := by decide +kernel
  cases h with
  | non => exact B _ (hB "NoneType" (by decide) t ht)
  | bl b => exact B _ (hB "bool" (by decide) t ht)
  | int b => exact B _ (hB "int" (by decide) t ht)
  | str b => exact B _ (hB "str" (by decide) t ht)
  | lst _ _ => exact B _ (hB "list" (by decide) t ht)
  | tup _ _ => exact B _ (hB "tuple" (by decide) t ht)
  | dic _ _ _ => exact B _ (hB "dict" (by decide) t ht)
  | ins hc _ _ _ => exact hc.nt t ht
  | exc hc hn _ _ _ _ => exact hn t ht
  | fnv f => exact hb.elim
  | dit _ _ _ => exact hb.elim
  | lam _ _ => exact hb.elim
def xIsT (t : String) (F : DT) : DT := fun ρ n P XP => F ρ n (fun d n1 => bareD d ∧ P (.bl (isTy t d)) n1) XP
theorem is_end {cv : V} {cu : Value} {b : Bool} {v : V} {d : D} {Q : VK} (hc : ClsV cv cu) (hd : Dn K H v d) (hb : bareD d) (e : PySem.W.kitOne K (tyD d) cu = some b) (fin : Q (.bl b) H) : rIsD K [v, cv] H Q := by
  cases d with
  | exc C ns ds =>
    cases hd with
    | @exc a C od fs ns ds hC hT g1 g0 g2 g3 =>
      refine .inr ⟨a, C, od, cv, cu, b, rfl, hc, g1, fun dd ed => ?_, hC, e, fin⟩
      rcases g0 with g0 | ⟨d2, g0, hne, g4⟩
      · rw [g0.1] at ed
        cases ed
      · rw [g0] at ed
        cases ed
        exact ⟨_, g4⟩
  | fnv f => exact hb.elim
  | dit _ _ => exact hb.elim
  | lam _ => exact hb.elim
  | _ => exact .inl ⟨v, cv, _, cu, b, rfl, hc, TyX.of hd (fun _ _ _ z => by cases z) (fun _ z => by cases z) (fun _ _ z => by cases z), e, fin⟩
theorem rd_isT {t : String} (ht : t ∈ ["int", "bool", "str", "tuple", "list", "dict"]) (h1 : DL.Rd K T S E te FE) : DL.Rd K T S E (tCB (rIsD K) (tCons te (tCons (tC (.ty t)) tNil))) (xIsT t FE) := fun σ ρ Hb H n P XP Q w sl h q x =>
  h1 σ ρ Hb H n _ XP _ w sl h (fun d v n1 Hb1 H1 s hd p => is_end (.ty t) (s.wd.dn hd) p.1 (kit_isTy ht hd p.1) (q _ _ n1 Hb1 H1 s (.bl _) p.2)) x
/-! ### displays of dicts -/
def xPairs : List (DT × DT) → List SV → Nat → (List Key → List D → Nat → Prop) → DX → Prop
  | [], _, n, P, _ => P [] [] n
  | (F, G) :: r, ρ, n, P, XP => F ρ n (fun a n1 => ∃ k, keyD a = some k ∧ G ρ n1 (fun d n2 => xPairs r ρ n2 (fun ks ds n3 => P (k :: ks) (d :: ds) n3) XP) XP) XP
inductive RdP (K : PySem.W.Frag) (T : Tb) (S : SA) (E : XK) : List (TE × TE) → List (DT × DT) → Prop
  | nil : RdP K T S E [] []
  | cons {tk tv : TE} {F G : DT} {trs : List (TE × TE)} {prs : List (DT × DT)} : DL.Rd K T S E tk F → DL.Rd K T S E tv G → RdP K T S E trs prs → RdP K T S E ((tk, tv) :: trs) ((F, G) :: prs)
theorem key_rel {v : V} {d : D} {k : Key} (h : Dn K H v d) (e : keyD d = some k) : v = kV k := by
  cases h with
  | int i => cases e; rfl
  | str i => cases e; rfl
  | _ => cases e
theorem rd_pairs {trs : List (TE × TE)} {prs : List (DT × DT)} (h : RdP K T S E trs prs) : ∀ {σ : L2.St} {ρ : List SV} {Hb H : Hp} {n : Nat} {P : List Key → List D → Nat → Prop} {XP : DX} {Q : List (V × V) → Hp → Prop}, World T S Hb H → Slots K S Hb H n ρ σ →
    xPairs prs ρ n P XP → (∀ (kvs : List (Key × V)) (ks : List Key) (ds : List D) (n' : Nat) (Hb' H' : Hp), Stp K T S Hb H n Hb' H' n' → kvs.map (·.1) = ks → DnA K Hb' (kvs.map (·.2)) ds → P ks ds n' → Q (kvs.map fun kv => (kV kv.1, kv.2)) H') → XOk K T S Hb H n XP E → tPairs trs σ H Q := by
  induction h with
  | nil => exact fun w sl p q x => q [] [] [] _ _ _ (.refl w) rfl .nil p
  | @cons tk tv F G trs prs h1 h2 _ ih =>
    intro σ ρ Hb H n P XP Q w sl p q x
    refine h1 σ ρ Hb H n _ XP _ w sl p (fun a v n1 Hb1 H1 s hv p1 => ?_) x
    obtain ⟨k, ek, p1⟩ := p1
    refine h2 σ ρ Hb1 H1 n1 _ XP _ s.wd (sl.step s) p1 (fun d u n2 Hb2 H2 s2 hu p2 => ?_) (x.step s)
    refine ih s2.wd ((sl.step s).step s2) p2 (fun kvs ks ds n3 Hb3 H3 s3 e3 h3 p3 => ?_) ((x.step s).step s2)
    have z := q ((k, u) :: kvs) (k :: ks) (d :: ds) n3 Hb3 H3 ((s.trans s2).trans s3) (by rw [List.map_cons, e3]) (.cons (hu.up s3.ex) h3) p3
    rw [key_rel hv ek]
    exact z
theorem merge_nodup : ∀ {kvs acc : List (Key × V)}, ((acc ++ kvs).map (·.1)).Nodup → mergeK acc kvs = acc ++ kvs
  | [], acc, _ => by simp [mergeK]
  | (k, v) :: kvs, acc, h => by
    have e : putK acc k v = acc ++ [(k, v)] := by
      refine putK_new v ?_
      cases q : valV acc k with
      | none => rfl
      | some u =>
        rw [List.map_append, List.nodup_append] at h
        have hm : k ∈ acc.map (·.1) := by
          unfold valV at q
          cases f : acc.find? fun kv => decide (kv.1 = k) with
          | none => rw [f] at q; cases q
          | some kv =>
            have h1 := List.mem_of_find?_eq_some f
            have h2 := List.find?_some f
            simp at h2
            exact List.mem_map.mpr ⟨kv, h1, h2⟩
        exact absurd rfl (h.2.2 k hm k (by simp))
    show mergeK (putK acc k v) kvs = _
    rw [e, merge_nodup (acc := acc ++ [(k, v)]) (by simpa using h)]
    simp
end
end DL

/-! defs by their promise on data -/
namespace DL
open L2 PySem PySem.Spec PyProof.Rows
open Evl (Ex ex_l ex_t sz_of)
def startS (N : List Str) (ss : List SV) : List SV := ss ++ List.replicate (N.length - ss.length) .no
def noOl : List SV → Bool
  | [] => true
  | .ol _ :: _ => false
  | .me _ _ _ _ :: _ => false
  | .od _ _ :: _ => false
  | .ot _ _ :: _ => false
  | _ :: ss => noOl ss
def noL : List SV → Bool
  | [] => true
  | .ol _ :: _ => false
  | _ :: ss => noL ss
theorem noL_of : ∀ {ss : List SV}, noOl ss = true → noL ss = true
  | [], _ => rfl
  | .ol _ :: _, h => by exact (Bool.noConfusion h)
  | .me _ _ _ _ :: _, h => by exact (Bool.noConfusion h)
  | .od _ _ :: _, h => by exact (Bool.noConfusion h)
  | .ot _ _ :: _, h => by exact (Bool.noConfusion h)
  | .fv _ :: ss, h => noL_of (ss := ss) h
  | .no :: ss, h => noL_of (ss := ss) h
  | .st :: ss, h => noL_of (ss := ss) h
  | .d _ :: ss, h => noL_of (ss := ss) h
section
variable {K : PySem.W.Frag} {T : Tb} {S : SA} {E : XK} {Hb H Hb1 H1 : Hp} {n n1 : Nat} {X : Cx}
theorem Args.get : ∀ {ss : List SV} {vs : List V} {i : Nat} {s : SV}, Args K S Hb H n ss vs → ss[i]? = some s → ∃ v, vs[i]? = some v ∧ SlotOk K S Hb H n s (some v)
  | [], _, i, s, _, e => by simp at e
  | s :: ss, _, 0, s', h, e => by
    cases h with
    | cons h1 h2 =>
      simp at e
      subst e
      exact ⟨_, rfl, h1⟩
  | s :: ss, _, i + 1, s', h, e => by
    cases h with
    | cons h1 h2 => exact Args.get (i := i) h2 (by simpa using e)
theorem noOl_get : ∀ {ss : List SV} {i : Nat} {s : SV}, noOl ss = true → ss[i]? = some s → isOwn s = false
  | [], i, s, _, e => by simp at e
  | .no :: _, 0, s, h, e => by simp at e; subst e; rfl
  | .st :: _, 0, s, h, e => by simp at e; subst e; rfl
  | .d _ :: _, 0, s, h, e => by simp at e; subst e; rfl
  | .ol _ :: _, _, s, h, e => by exact Bool.noConfusion h
  | .me _ _ _ _ :: _, _, s, h, e => by exact Bool.noConfusion h
  | .od _ _ :: _, _, s, h, e => by exact Bool.noConfusion h
  | .ot _ _ :: _, _, s, h, e => by exact Bool.noConfusion h
  | .fv _ :: _, 0, s, h, e => by simp at e; subst e; rfl
  | .fv _ :: ss, i + 1, s, h, e => noOl_get (ss := ss) (i := i) h (by simpa using e)
  | .no :: ss, i + 1, s, h, e => noOl_get (ss := ss) (i := i) h (by simpa using e)
  | .st :: ss, i + 1, s, h, e => noOl_get (ss := ss) (i := i) h (by simpa using e)
  | .d _ :: ss, i + 1, s, h, e => noOl_get (ss := ss) (i := i) h (by simpa using e)
theorem noL_get : ∀ {ss : List SV} {i : Nat} {xs : List D}, noL ss = true → ss[i]? ≠ some (.ol xs)
  | [], i, xs, _ => by simp
  | s :: ss, 0, xs, h => by
    intro e
    simp at e
    subst e
    exact absurd h (by simp [noL])
  | s :: ss, i + 1, xs, h => by
    have h' : noL ss = true := by cases s <;> first | exact h | (exact absurd h (by simp [noL]))
    simpa using noL_get (i := i) h'
theorem start_cases {N : List Str} {ss : List SV} {i : Nat} {s : SV} (ei : (startS N ss)[i]? = some s) : ss[i]? = some s ∨ s = .no := by
  unfold startS at ei
  by_cases hi : i < ss.length
  · rw [List.getElem?_append_left hi] at ei
    exact .inl ei
  · rw [List.getElem?_append_right (by omega), List.getElem?_replicate] at ei
    split at ei
    · exact .inr (Option.some.inj ei).symm
    · cases ei
theorem start_no {N : List Str} {ss : List SV} {i : Nat} {xs : List D} (ho : noL ss = true) (ei : (startS N ss)[i]? = some (.ol xs)) : False := by
  rcases start_cases ei with h | h
  · exact absurd h (noL_get ho)
  · cases h
theorem start_fr {N : List Str} {ss : List SV} {σ : L2.St} {H0 : Hp} (ho : noOl ss = true) : OwF H0 (startS N ss) σ := fun _ _ _ ei eo _ => by
  rcases start_cases ei with h | h
  · rw [noOl_get ho h] at eo
    cases eo
  · subst h
    cases eo
theorem Slots.start {N : List Str} {ss : List SV} {vs : List V} (h : Args K S Hb H n ss vs) (ho : noL ss = true) : Slots K S Hb H n (startS N ss) (L2.start N vs) where
  len := by
    unfold startS L2.start
    rw [List.length_append, List.length_append, List.length_map, List.length_replicate, List.length_replicate, h.len]
  ok := fun i s e => by
    unfold startS at e
    unfold L2.start
    have hl := h.len
    by_cases hi : i < ss.length
    · rw [List.getElem?_append_left hi] at e
      obtain ⟨v, ev, hv⟩ := h.get e
      refine ⟨some v, ?_, hv⟩
      rw [List.getElem?_append_left (by rw [List.length_map, ← hl]; exact hi), List.getElem?_map, ev]
      rfl
    · rw [List.getElem?_append_right (by omega)] at e
      have es : s = .no := by
        rw [List.getElem?_replicate] at e
        split at e
        · exact (Option.some.inj e).symm
        · cases e
      subst es
      have hlt : i - ss.length < N.length - ss.length := by
        have := (List.getElem?_eq_some_iff.mp e).1
        simpa using this
      refine ⟨none, ?_, trivial⟩
      rw [List.getElem?_append_right (by rw [List.length_map]; omega), List.length_map, List.getElem?_replicate, if_pos (by omega)]
  ap := fun i j p xs ys _ ei _ _ _ => (start_no ho ei).elim

/-- a promise on data, no error -/
abbrev DSp0 := List SV → Nat → DQ → Prop
def sp0 (K : PySem.W.Frag) (T : Tb) (DS : DSp0) : Sp := spOf K T (fun ss n P _ => noOl ss = true ∧ DS ss n P)
def spX (K : PySem.W.Frag) (T : Tb) (DS : DSp) : Sp := spOf K T (fun ss n P XP => noOl ss = true ∧ DS ss n P XP)
variable {P : Program} {w : PySem.World} {mg : Str → Option Value} {base : Heap}
theorem _root_.L2.Fun.okD {x qual : Str} {st : Stmt} {f : Addr} {fd : FuncData} {N ps : List Str} {k : Nat} {DS : DSp0} (F : Fun K x qual st f fd) (Sc : FnScope N ps (defScope st)) (len : ∀ ss n P, DS ss n P → ss.length = ps.length)
    (hb : ∀ (S : SA) (cdv : Value) (A : Around) (outer : List Env) (s : Shared) (H : Hp) (E : XK), Room k (A.deeper (envOfC qual (defScope st) s.heap.objs.size f cdv)) →
      ∃ ts G, PSs (cxOf CX0 P w K mg base N qual (defScope st) f cdv A outer s H E).nox (defBody st) ts ∧ RdS K T S E0 ts G ∧ ∀ ss n P, DS ss n P → G { nx := fun _ n => P .non n, rt := P } (startS N ss) n xF) :
    FnOk P w K mg base CX0 (k + 1) f fd ps (sp0 K T DS) := by
  refine F.ok Sc (fun vs H Q E h => ?_) (fun cdv A outer s H vs Q E hr h => ?_)
  · obtain ⟨S, Hb, n, ss, P, XP, _, ha, ⟨_, hd⟩, _⟩ := h
    rw [← ha.len]
    exact len ss n P hd
  · obtain ⟨S, Hb, n, ss, P, XP, wd, ha, ⟨ho, hd⟩, q, _⟩ := h
    obtain ⟨ts, G, h1, h2, h3⟩ := hb S cdv A outer s H E hr
    refine ⟨ts, h1, h2 _ _ Hb H n Hb H n _ xF _ (.refl wd) ⟨.start ha (noL_of ho), start_fr ho⟩ (h3 ss n P hd) ⟨fun ρ σ n' Hb' H' _ st _ p => q _ _ _ _ _ st .non p, q, fun _ _ _ _ _ _ _ _ p => p.elim, fun _ _ _ _ _ _ _ _ p => p.elim⟩ .none⟩
theorem _root_.L2.Fun.okXD {x qual : Str} {st : Stmt} {f : Addr} {fd : FuncData} {N ps : List Str} {k : Nat} {DS : DSp} (F : Fun K x qual st f fd) (Sc : FnScope N ps (defScope st)) (len : ∀ ss n P XP, DS ss n P XP → ss.length = ps.length)
    (hb : ∀ (S : SA) (cdv : Value) (A : Around) (outer : List Env) (s : Shared) (H : Hp) (E : XK), Room k (A.deeper (envOfC qual (defScope st) s.heap.objs.size f cdv)) →
      ∃ ts G, PSs (cxOf (L2.CX P w) P w K mg base N qual (defScope st) f cdv A outer s H E) (defBody st) ts ∧ RdS K T S E ts G ∧ ∀ ss n P XP, DS ss n P XP → G { nx := fun _ n => P .non n, rt := P } (startS N ss) n XP) :
    FnOk P w K mg base (L2.CX P w) (k + 1) f fd ps (spX K T DS) := by
  refine F.okX Sc (fun vs H Q E h => ?_) (fun cdv A outer s H vs Q E hr h => ?_)
  · obtain ⟨S, Hb, n, ss, P, XP, _, ha, ⟨_, hd⟩, _⟩ := h
    rw [← ha.len]
    exact len ss n P XP hd
  · obtain ⟨S, Hb, n, ss, P, XP, wd, ha, ⟨ho, hd⟩, q, x⟩ := h
    obtain ⟨ts, G, h1, h2, h3⟩ := hb S cdv A outer s H E hr
    refine ⟨ts, h1, h2 _ _ Hb H n Hb H n _ XP _ (.refl wd) ⟨.start ha (noL_of ho), start_fr ho⟩ (h3 ss n P XP hd) ⟨fun ρ σ n' Hb' H' _ st _ p => q _ _ _ _ _ st .non p, q, fun _ _ _ _ _ _ _ _ p => p.elim, fun _ _ _ _ _ _ _ _ p => p.elim⟩ x⟩

/-! ### calls -/
def xCall0 (DS : DSp0) (G : DTA) : DT := fun ρ n P XP => G ρ n (fun ss n1 => noOl ss = true ∧ DS ss n1 P) XP
def xCallX (DS : DSp) (G : DTA) : DT := fun ρ n P XP => G ρ n (fun ss n1 => noOl ss = true ∧ DS ss n1 P XP) XP
theorem rd_call0 {DS : DSp0} {ta : TA} {G : DTA} {E : XK} {E' : XK} (h : RdA K T S E' ta G) : DL.Rd K T S E' (tCall (sp0 K T DS) [] E ta) (xCall0 DS G) := fun σ ρ Hb H n P XP Q w sl hf q x =>
  h σ ρ Hb H n _ XP _ w sl hf (fun ss vs n1 Hb1 H1 s ha p => by
    show sp0 K T DS (vs ++ []) H1 Q E
    rw [List.append_nil]
    exact ⟨S, Hb1, n1, ss, P, xF, s.wd, ha, p, q.step s, .none⟩) x
theorem rd_callX {DS : DSp} {ta : TA} {G : DTA} (h : RdA K T S E ta G) : DL.Rd K T S E (tCall (spX K T DS) [] E ta) (xCallX DS G) := fun σ ρ Hb H n P XP Q w sl hf q x =>
  h σ ρ Hb H n _ XP _ w sl hf (fun ss vs n1 Hb1 H1 s ha p => by
    show spX K T DS (vs ++ []) H1 Q E
    rw [List.append_nil]
    exact ⟨S, Hb1, n1, ss, P, XP, s.wd, ha, p, q.step s, x.step s⟩) x
/-- a def that may raise, called where it does not -/
theorem rd_callN {DS : DSp} {ta : TA} {G : DTA} {E' : XK} (h : RdA K T S E' ta G) : DL.Rd K T S E' (tCall (spX K T DS) [] E0 ta) (fun ρ n P XP => G ρ n (fun ss n1 => noOl ss = true ∧ DS ss n1 P xF) XP) := fun σ ρ Hb H n P XP Q w sl hf q x =>
  h σ ρ Hb H n _ XP _ w sl hf (fun ss vs n1 Hb1 H1 s ha p => by
    show spX K T DS (vs ++ []) H1 Q E0
    rw [List.append_nil]
    exact ⟨S, Hb1, n1, ss, P, xF, s.wd, ha, p, q.step s, .none⟩) x
end
end DL

/-! how a def stands behind the top; the first words for goals on data -/
namespace DL
open L2 PySem PySem.Spec PyProof.Rows
/-- a def of the text as the top leaves it -/
def DefAt (K : PySem.W.Frag) (mg : Str → Option Value) (name : Str) (st : Stmt) (ps : List Str) : Prop :=
  ∃ f fd, Fun K name name st f fd ∧ mg name = some (.ref f) ∧ PySem.W.keepIn K (.ref f) = true ∧ Binds K fd ps []
/-- a def with its promise -/
def Has (P : Program) (w : PySem.World) (K : PySem.W.Frag) (mg : Str → Option Value) (base : Heap) (CX : CXT) (k : Nat) (name : Str) (ps : List Str) (sp : Sp) : Prop :=
  ∃ f fd, FnOk P w K mg base CX k f fd ps sp ∧ mg name = some (.ref f) ∧ PySem.W.keepIn K (.ref f) = true ∧ Binds K fd ps []
theorem slotD_zero {x : D} {ρ : List SV} {k : D → Prop} : slotD (.d x :: ρ) 0 k = k x := rfl
theorem slotD_succ {s : SV} {ρ : List SV} {i : Nat} {k : D → Prop} : slotD (s :: ρ) (i + 1) k = slotD ρ i k := rfl
def isInt : D → Bool
  | .int _ => true
  | _ => false
end DL

/-! lists of one's own -/
namespace DL
open L2 PySem PySem.Spec PyProof.Rows
open Evl (Ex ex_l ex_t sz_of)
section
variable {K : PySem.W.Frag} {T : Tb} {S : SA} {E : XK} {Hb H Hb1 H1 : Hp} {n n1 : Nat} {te : TE} {FE : DT}
def slotO (ρ : List SV) (i : Nat) (k : List D → Prop) : Prop := match ρ[i]? with
  | some (.ol x) => k x
  | _ => False
theorem slotO_zero {x : List D} {ρ : List SV} {k : List D → Prop} : slotO (.ol x :: ρ) 0 k = k x := rfl
theorem slotO_succ {s : SV} {ρ : List SV} {i : Nat} {k : List D → Prop} : slotO (s :: ρ) (i + 1) k = slotO ρ i k := rfl
theorem Slots.own {ρ : List SV} {σ : L2.St} {i : Nat} {k : List D → Prop} (sl : Slots K S Hb H n ρ σ) (h : slotO ρ i k) : ∃ xs p vs, ρ[i]? = some (.ol xs) ∧ σ[i]? = some (some (.ref p)) ∧ H p = some (.lst vs) ∧ Hb p = none ∧ p ≠ S.a ∧ p ≠ S.l ∧ p ≠ S.c ∧ DnA K Hb vs xs ∧ k xs := by
  unfold slotO at h
  cases e : ρ[i]? with
  | none => rw [e] at h; exact h.elim
  | some s =>
    rw [e] at h
    cases s with
    | ol xs =>
      obtain ⟨o, e1, p, vs, e2, e3, e4, e5, e6, e8, e7⟩ := sl.ok i _ e
      exact ⟨xs, p, vs, rfl, by rw [e1, e2], e3, e4, e5, e6, e8, e7, h⟩
    | no => exact h.elim
    | st => exact h.elim
    | d x => exact h.elim
    | me _ _ _ _ => exact h.elim
    | od _ _ => exact h.elim
    | ot _ _ => exact h.elim
    | fv _ => exact h.elim
/-- a slot gets a list of one's own -/
theorem Slots.setO {ρ : List SV} {σ : L2.St} {i : Nat} {p : Addr} {vs : List V} {xs : List D} (sl : Slots K S Hb H n ρ σ) (h1 : H p = some (.lst vs)) (h2 : Hb p = none) (h3 : p ≠ S.a) (h4 : p ≠ S.l) (h4c : p ≠ S.c) (h5 : DnA K Hb vs xs)
    (fr : ∀ (j : Nat) (ys : List D), ρ[j]? = some (.ol ys) → σ[j]? ≠ some (some (.ref p))) : Slots K S Hb H n (ρ.set i (.ol xs)) (σ.set i (some (.ref p))) where
  len := by rw [List.length_set, List.length_set]; exact sl.len
  ok := fun j s e => by
    by_cases hj : i = j
    · subst hj
      have hl : i < ρ.length := by
        have := (List.getElem?_eq_some_iff.mp e).1
        rwa [List.length_set] at this
      rw [List.getElem?_set_self hl] at e
      cases e
      exact ⟨_, List.getElem?_set_self (by rw [← sl.len]; exact hl), p, vs, rfl, h1, h2, h3, h4, h4c, h5⟩
    · rw [List.getElem?_set_ne hj] at e
      obtain ⟨o, e1, e2⟩ := sl.ok j s e
      exact ⟨o, by rw [List.getElem?_set_ne hj]; exact e1, e2⟩
  ap := fun j k q ys zs hjk ej ek sj sk => by
    by_cases hj : i = j
    · subst hj
      have hk : i ≠ k := hjk
      rw [List.getElem?_set_ne hk] at ek sk
      have hl : i < ρ.length := by
        have := (List.getElem?_eq_some_iff.mp ej).1
        rwa [List.length_set] at this
      rw [List.getElem?_set_self (by rw [← sl.len]; exact hl)] at sj
      have eq : p = q := V.ref.inj (Option.some.inj (Option.some.inj sj))
      subst eq
      exact fr k zs ek sk
    · by_cases hk : i = k
      · subst hk
        rw [List.getElem?_set_ne hj] at ej sj
        have hl : i < ρ.length := by
          have := (List.getElem?_eq_some_iff.mp ek).1
          rwa [List.length_set] at this
        rw [List.getElem?_set_self (by rw [← sl.len]; exact hl)] at sk
        have eq : p = q := V.ref.inj (Option.some.inj (Option.some.inj sk))
        subst eq
        exact fr j ys ej sj
      · rw [List.getElem?_set_ne hj] at ej sj
        rw [List.getElem?_set_ne hk] at ek sk
        exact sl.ap j k q ys zs hjk ej ek sj sk
/-- the step that rewrites a list of one's own; what others hold stays -/
theorem own_write {ρ : List SV} {σ : L2.St} {i : Nat} {p : Addr} {vs us : List V} {xs ys : List D} (w : World T S Hb H) (sl : Slots K S Hb H n ρ σ) (ei : ρ[i]? = some (.ol xs)) (es : σ[i]? = some (some (.ref p))) (h1 : H p = some (.lst vs)) (h2 : Hb p = none) (h3 : p ≠ S.a) (h4 : p ≠ S.l)
    (h6 : DnA K Hb us ys) (hpc : p ≠ S.c) : World T S Hb (upd H p (.lst us)) ∧ Slots K S Hb (upd H p (.lst us)) n (ρ.set i (.ol ys)) σ := by
  have hnt : ∀ q ∈ T, q.1 ≠ p := fun q hq z => by
    obtain ⟨ps, e, _⟩ := w.tabs q hq
    rw [z, h1] at e
    cases e
  have keep : ∀ {b : Addr} {o : HO}, H b = some o → b ≠ p → upd H p (.lst us) b = some o := fun e hb => by rw [upd_ne hb]; exact e
  refine ⟨⟨fun b o e => keep (w.ex b o e) (fun z => by rw [z, h2] at e; cases e), fun q hq => ?_, w.tb, ?_, ?_, ?_, w.nt⟩, ?_⟩
  · obtain ⟨ps, e, t1, t2⟩ := w.tabs q hq
    refine ⟨ps, keep e (hnt q hq), t1, fun pos cv hcv => ?_⟩
    obtain ⟨c, e1, e2⟩ := t2 pos cv hcv
    exact ⟨c, e1, keep e2 (fun z => by rw [z, h1] at e2; exact codeO_no (o := .lst vs) (fun _ z => by cases z) (Option.some.inj e2))⟩
  · exact w.sa.upd fun _ z => by cases z
  · exact w.sl.upd fun _ z => by cases z
  · exact w.sc.upd fun _ z => by cases z
  · refine ⟨by rw [List.length_set]; exact sl.len, fun j s e => ?_, fun j k q y z hjk ej ek sj sk => ?_⟩
    · by_cases hj : i = j
      · subst hj
        have hl : i < ρ.length := (List.getElem?_eq_some_iff.mp ei).1
        rw [List.getElem?_set_self hl] at e
        cases e
        exact ⟨_, es, p, us, rfl, upd_same, h2, h3, h4, hpc, h6⟩
      · rw [List.getElem?_set_ne hj] at e
        obtain ⟨o, e1, e2⟩ := sl.ok j s e
        refine ⟨o, e1, ?_⟩
        cases s with
        | no => trivial
        | d x => exact e2
        | st =>
          obtain ⟨e3, st⟩ := e2
          obtain ⟨g1, g2, ls, cs, m, t, g3, g4, g5, g6, g7, g8, rest⟩ := st
          exact ⟨e3, g1, g2, ls, cs, m, t, g3, g4, g5, keep g6 h3.symm, keep g7 h4.symm, g8, rest⟩
        | ol zs =>
          obtain ⟨q, ws, e3, e4, e5, e6, e7, e9, e8⟩ := e2
          have hqp : q ≠ p := fun z => by
            subst z
            exact sl.ap i j q xs zs hj ei e es (by rw [e1, e3])
          exact ⟨q, ws, e3, keep e4 hqp, e5, e6, e7, e9, e8⟩
        | me y C ms es2 =>
          obtain ⟨e3, dx, fs, e4, rest⟩ := e2
          exact ⟨e3, dx, fs, keep e4 (fun z => by rw [z, h1] at e4; cases e4), rest⟩
        | od ks es2 =>
          obtain ⟨q, kvs, e3, e4, rest⟩ := e2
          exact ⟨q, kvs, e3, keep e4 (fun z => by rw [z, h1] at e4; cases e4), rest⟩
        | ot ks es2 =>
          obtain ⟨q, kvs, e3, e4, rest⟩ := e2
          exact ⟨q, kvs, e3, keep e4 (fun z => by rw [z, h1] at e4; cases e4), rest⟩
        | fv F =>
          obtain ⟨f, c, e3, e4, e5, rest⟩ := e2
          exact ⟨f, c, e3, e4, keep e5 (fun z => by rw [z, h1] at e5; exact codeO_no (o := .lst vs) (fun _ z => by cases z) (Option.some.inj e5)), rest⟩
    · have f : ∀ {m : Nat} {u : List D}, (ρ.set i (.ol ys))[m]? = some (.ol u) → ∃ u', ρ[m]? = some (.ol u') := fun {m u} e => by
        by_cases hm : i = m
        · subst hm
          exact ⟨xs, ei⟩
        · rw [List.getElem?_set_ne hm] at e
          exact ⟨u, e⟩
      obtain ⟨y', ey⟩ := f ej
      obtain ⟨z', ez⟩ := f ek
      exact sl.ap j k q y' z' hjk ey ez sj sk
/-- y = [..], a list of one's own -/
theorem rds_setO {i : Nat} {F : DTL} (h1 : RdN K T S E te F) : RdS K T S E (tAsg te (gName i)) (xsSetO i F) := fun σ ρ Hb0 H0 n0 Hb H n DD XP D a sl h q x =>
  h1 σ ρ Hb H n _ XP _ a.wd sl.sl h (fun ds p vs n1 Hb1 H1 s hp e1 e2 hd pp => by
    obtain ⟨m1, m2, m3⟩ := a.wd.nS hp
    refine q.nx _ _ n1 Hb1 H1 s.ex (a.trans s) ⟨(sl.sl.step s).setO e1 e2 m1 m2 m3 hd (fun j ys ej sj => ?_), fun j xs r ej eo sj => ?_⟩ pp
    · obtain ⟨o, g1, r, ws, g2, g3, _⟩ := sl.sl.ok j _ ej
      rw [g1, g2] at sj
      have er : r = p := V.ref.inj (Option.some.inj (Option.some.inj sj))
      rw [er] at g3
      exact absurd rfl (hp.ne g3 fun _ z => by cases z)
    · by_cases hj : i = j
      · subst hj
        have hl : i < ρ.length := by
          have := (List.getElem?_eq_some_iff.mp ej).1
          rwa [List.length_set] at this
        rw [List.getElem?_set_self (by rw [← sl.sl.len]; exact hl)] at sj
        have er : p = r := V.ref.inj (Option.some.inj (Option.some.inj sj))
        rw [← er]
        exact a.dm p hp
      · rw [List.getElem?_set_ne hj] at ej sj
        exact sl.fr j xs r ej eo sj) (x.step a)
/-- xs[e], xs of one's own -/
def xIxO (i : Nat) (G : DT) : DT := fun ρ n P XP => slotO ρ i fun xs => G ρ n (fun d n1 => match d with | .int j => ∃ y, atD xs j = some y ∧ P y n1 | _ => False) XP
theorem rd_ixO {i : Nat} (h1 : DL.Rd K T S E te FE) : DL.Rd K T S E (tOp (rIx K) (tVar i) te) (xIxO i FE) := fun σ ρ Hb H n P XP Q w sl h q x => by
  obtain ⟨xs, p, vs, e, es, e3, e4, e5, e6, e8, e7, h⟩ := sl.own h
  refine ⟨.ref p, es, ?_⟩
  refine h1 σ ρ Hb H n _ XP _ w sl h (fun d v n1 Hb1 H1 s hd pp => ?_) x
  cases hd with
  | int j =>
    obtain ⟨y, ey, pp⟩ := pp
    obtain ⟨g1, g2⟩ := s.own p _ e3 e4 e5 e6 (fun ps z => by cases z)
    obtain ⟨u, eu, hu⟩ := (e7.up s.ex).at ey
    exact .inl ⟨p, vs, j, u, rfl, rfl, SqL.of g1, eu, q _ _ n1 Hb1 H1 s hu pp⟩
  | _ => exact pp.elim
/-- len(xs), tuple(xs), list(xs) -/
def xLenO (i : Nat) : DT := fun ρ n P _ => slotO ρ i fun xs => P (.int xs.length) n
theorem rd_lenO {i : Nat} : DL.Rd K T S E (tCB (rLenU K) (tCons (tVar i) tNil)) (xLenO i) := fun σ ρ Hb H n P XP Q w sl h q x => by
  obtain ⟨xs, p, vs, e, es, e3, e4, e5, e6, e8, e7, h⟩ := sl.own h
  exact ⟨.ref p, es, .inl ⟨p, vs, rfl, .inl (SqL.of e3), q.now w (.int _) (by rw [e7.len]; exact h)⟩⟩
def xTupO (i : Nat) : DT := fun ρ n P _ => slotO ρ i fun xs => P (.tup xs) n
theorem rd_tupO {i : Nat} : DL.Rd K T S E (tCB (rTupOf K) (tCons (tVar i) tNil)) (xTupO i) := fun σ ρ Hb H n P XP Q w sl h q x => by
  obtain ⟨xs, p, vs, e, es, e3, e4, e5, e6, e8, e7, h⟩ := sl.own h
  exact ⟨.ref p, es, p, vs, rfl, .inl ⟨SqL.of e3, fun l hl => q.new w hl (.tup (SqT.of upd_same) (e7.up (Ex.new (free_of w.ex hl)))) h⟩⟩
/-- a statement that rewrites a list of one's own -/
theorem own_stmt {i : Nat} {ρ : List SV} {σ : L2.St} {p : Addr} {vs us : List V} {xs ys : List D} {Hb0 H0 : Hp} {n0 : Nat} {DD : DEn} {D : Ends} (a : Stp K T S Hb0 H0 n0 Hb H n) (sl : Sl0 K S H0 Hb H n ρ σ) (q : EOk K T S Hb0 H0 n0 Hb DD D)
    (ei : ρ[i]? = some (.ol xs)) (es : σ[i]? = some (some (.ref p))) (h1 : H p = some (.lst vs)) (h2 : Hb p = none) (h3 : p ≠ S.a) (h4 : p ≠ S.l) (hc : p ≠ S.c) (h6 : DnA K Hb us ys) (pp : DD.nx (ρ.set i (.ol ys)) n) : D.nx σ (upd H p (.lst us)) := by
  have f0 : Fresh H0 p := sl.fr i _ p ei rfl es
  obtain ⟨w', sl'⟩ := own_write (us := us) (ys := ys) a.wd sl.sl ei es h1 h2 h3 h4 h6 hc
  refine q.nx _ _ n Hb _ (Ex.refl _) ⟨a.ex, w', fun h0 => ?_, fun b o e1 e2 e3 e4 e5 => ?_, fun b e => a.dm b (dm_upd (fun _ z => by cases z) b e)⟩ ⟨sl', fun j zs r ej eo sj => ?_⟩ pp
  · obtain ⟨g1, g2, ls, cs, m, t, g3, g4, g5, g6, g7, g8, rest⟩ := a.st h0
    exact ⟨g1, g2, ls, cs, m, t, g3, g4, g5, by rw [upd_ne h3.symm]; exact g6, by rw [upd_ne h4.symm]; exact g7, g8, rest⟩
  · have hb : b ≠ p := f0.ne e1 e5
    rw [upd_ne hb]
    exact a.own0 b o e1 e2 e3 e4 e5
  · by_cases hj : i = j
    · subst hj
      rw [es] at sj
      cases sj
      exact f0
    · rw [List.getElem?_set_ne hj] at ej
      exact sl.fr j zs r ej eo sj
theorem DnA.set {vs : List V} {ds : List D} {v : V} {d : D} (hv : Dn K H v d) : ∀ (m : Nat) {vs : List V} {ds : List D}, DnA K H vs ds → DnA K H (vs.set m v) (ds.set m d)
  | _, _, _, .nil => by simp; exact .nil
  | 0, _, _, .cons h1 h2 => .cons hv h2
  | m + 1, _, _, .cons h1 h2 => .cons h1 (DnA.set (vs := []) (ds := []) hv m h2)
/-- xs.append(e) -/
def xsAppO (i : Nat) (F : DT) : DTS := fun DD ρ n XP => slotO ρ i fun xs => F ρ n (fun d n1 => xs.length < 100000 ∧ DD.nx (ρ.set i (.ol (xs ++ [d]))) n1) XP
theorem rds_appO {i : Nat} (h1 : DL.Rd K T S E te FE) : RdS K T S E (tDrop (tBM K "list" rAppend (tVar i) (tCons te tNil))) (xsAppO i FE) := fun σ ρ Hb0 H0 n0 Hb H n DD XP D a sl h q x => by
  obtain ⟨xs, p, vs, e, es, e3, e4, e5, e6, e8, e7, h⟩ := sl.sl.own h
  refine ⟨.ref p, es, .inl ⟨rfl, vs, SqL.of e3⟩, ?_⟩
  refine h1 σ ρ Hb H n _ XP _ a.wd sl.sl h (fun d v n1 Hb1 H1 s hd pp => ?_) (x.step a)
  obtain ⟨g1, g2⟩ := s.own p _ e3 e4 e5 e6 (fun ps z => by cases z)
  have h7 := e7.up s.ex
  exact ⟨p, vs, v, rfl, rfl, g1, Evl.sz_lt (by rw [e7.len]; exact pp.1), own_stmt (a.trans s) (sl.step s) (q.up s.ex) e es g1 g2 e5 e6 e8 (h7.app (.one hd)) pp.2⟩
end
end DL

/-! the source of draws, as its two objects stand -/
namespace DL
open L2 PySem PySem.Spec PyProof.Rows
open Evl (Ex ex_l ex_t sz_of)
def stDict (S : SA) (m : Int) (t : Int) : List (Key × V) := [(kLarge, .ref S.l), (kCells, .ref S.c), (kLeft, .int m), (kTurn, .int t)]
theorem kne1 : ¬ kLarge = kCells := by decide +kernel
theorem kne2 : ¬ kLarge = kLeft := by decide +kernel
theorem kne3 : ¬ kLarge = kTurn := by decide +kernel
theorem kne4 : ¬ kCells = kLeft := by decide +kernel
theorem kne5 : ¬ kCells = kTurn := by decide +kernel
theorem kne6 : ¬ kLeft = kTurn := by decide +kernel
theorem st_large {S : SA} {m t : Int} : valV (stDict S m t) kLarge = some (.ref S.l) := by simp [valV, stDict]
theorem st_cells {S : SA} {m t : Int} : valV (stDict S m t) kCells = some (.ref S.c) := by simp [valV, stDict, kne1]
theorem st_left {S : SA} {m t : Int} : valV (stDict S m t) kLeft = some (.int m) := by simp [valV, stDict, kne2, kne4]
theorem st_turn {S : SA} {m t : Int} : valV (stDict S m t) kTurn = some (.int t) := by simp [valV, stDict, kne3, kne5, kne6]
theorem st_putL {S : SA} {m t k : Int} : putK (stDict S m t) kLeft (.int k) = stDict S k t := by
  simp [putK, stDict, kne2, kne4, Ne.symm (a := kLeft) (b := kTurn) kne6]
theorem st_putT {S : SA} {m t k : Int} : putK (stDict S m t) kTurn (.int k) = stDict S m k := by
  simp [putK, stDict, kne3, kne5, kne6]
/-- what a draw leaves as it was -/
structure Drw (S : SA) (H H' : Hp) : Prop where
  fr : ∀ b o, H b = some o → b ≠ S.a → b ≠ S.l → H' b = some o
  dm : ∀ b, Fresh H' b → Fresh H b
theorem Drw.refl {S : SA} (H : Hp) : Drw S H H := ⟨fun _ _ h _ _ => h, fun _ h => h⟩
theorem Drw.new {S : SA} {H H' : Hp} {p : Addr} {o : HO} (d : Drw S H H') (hp : H' p = none) (ho : ∀ ps, o ≠ .tbl ps := by intro _ z; cases z) : Drw S H (upd H' p o) := ⟨fun b u h h1 h2 => by
  have e := d.fr b u h h1 h2
  rw [upd_ne (ne_of_none e hp)]
  exact e, fun b h => d.dm b (dm_upd ho b h)⟩
theorem Drw.setA {S : SA} {H H' : Hp} {o : HO} (d : Drw S H H') (ho : ∀ ps, o ≠ .tbl ps := by intro _ z; cases z) : Drw S H (upd H' S.a o) := ⟨fun b u h h1 h2 => by
  rw [upd_ne h1]
  exact d.fr b u h h1 h2, fun b h => d.dm b (dm_upd ho b h)⟩
theorem Drw.setL {S : SA} {H H' : Hp} {o : HO} (d : Drw S H H') (ho : ∀ ps, o ≠ .tbl ps := by intro _ z; cases z) : Drw S H (upd H' S.l o) := ⟨fun b u h h1 h2 => by
  rw [upd_ne h2]
  exact d.fr b u h h1 h2, fun b h => d.dm b (dm_upd ho b h)⟩
/-- the source's two objects -/
structure StA (S : SA) (H : Hp) (ls : List Int) (m t : Int) : Prop where
  ea : H S.a = some (.dK (stDict S m t))
  el : H S.l = some (.lst (ls.map V.int))
theorem StA.new {S : SA} {H : Hp} {ls : List Int} {m t : Int} {p : Addr} {o : HO} (s : StA S H ls m t) (hp : H p = none) : StA S (upd H p o) ls m t :=
  ⟨by rw [upd_ne (ne_of_none s.ea hp)]; exact s.ea, by rw [upd_ne (ne_of_none s.el hp)]; exact s.el⟩
theorem StA.getL {S : SA} {H : Hp} {ls : List Int} {m t : Int} (s : StA S H ls m t) : DGet H S.a (.str "left") (some (.int m)) := by
  have e : (some (V.int m)) = valV (stDict S m t) kLeft := st_left.symm
  rw [e]
  exact DGet.k (k := kLeft) s.ea
theorem StA.getT {S : SA} {H : Hp} {ls : List Int} {m t : Int} (s : StA S H ls m t) : DGet H S.a (.str "turn") (some (.int t)) := by
  have e : (some (V.int t)) = valV (stDict S m t) kTurn := st_turn.symm
  rw [e]
  exact DGet.k (k := kTurn) s.ea
theorem StA.getG {S : SA} {H : Hp} {ls : List Int} {m t : Int} (s : StA S H ls m t) : DGet H S.a (.str "large") (some (.ref S.l)) := by
  have e : (some (V.ref S.l)) = valV (stDict S m t) kLarge := st_large.symm
  rw [e]
  exact DGet.k (k := kLarge) s.ea
theorem StA.getC {S : SA} {H : Hp} {ls : List Int} {m t : Int} (s : StA S H ls m t) : DGet H S.a (.str "cells") (some (.ref S.c)) := by
  have e : (some (V.ref S.c)) = valV (stDict S m t) kCells := st_cells.symm
  rw [e]
  exact DGet.k (k := kCells) s.ea
theorem st_len {S : SA} {m t : Int} : (stDict S m t).length < sizeLine := by show 4 < sizeLine; decide
theorem StA.putL {S : SA} {H : Hp} {ls : List Int} {m t k : Int} (s : StA S H ls m t) : DPut H S.a (.str "left") (.int k) (upd H S.a (.dK (stDict S k t))) := by
  have z := DPut.k (k := kLeft) (v := .int k) s.ea st_len
  rw [st_putL] at z
  exact z
theorem StA.putT {S : SA} {H : Hp} {ls : List Int} {m t k : Int} (s : StA S H ls m t) : DPut H S.a (.str "turn") (.int k) (upd H S.a (.dK (stDict S m k))) := by
  have z := DPut.k (k := kTurn) (v := .int k) s.ea st_len
  rw [st_putT] at z
  exact z
theorem ints_dp {K : PySem.W.Frag} {H : Hp} : ∀ (ns : List Int), DpAll K H (ns.map V.int) (ns.map PyData.int)
  | [] => .nil
  | n :: ns => .cons (.int n) (ints_dp ns)
theorem eqv_nil (ns : List Int) : PyData.eqv (.list (ns.map PyData.int)) (.list []) = ns.isEmpty := by
  cases ns with
  | nil => rfl
  | cons n ns => rfl
theorem lay_ints : ∀ ns : List Int, PyData.canLayAll0 (ns.map PyData.int) = true
  | [] => by simp [PyData.canLayAll0]
  | n :: ns => by simp [PyData.canLayAll0, PyData.canLay0, lay_ints ns]
theorem depth_ints : ∀ ns : List Int, PyData.depthAll (ns.map PyData.int) = 0
  | [] => by simp [PyData.depthAll]
  | n :: ns => by simp [PyData.depthAll, PyData.depth, depth_ints ns]
theorem shaped_ints (ns : List Int) : SeqAt.shaped (.list (ns.map PyData.int)) = true := by
  unfold SeqAt.shaped
  simp [PyData.canLay0, lay_ints ns, PyData.depth, depth_ints ns]
theorem shaped_nil : SeqAt.shaped (.list []) = true := shaped_ints []
/-- the draw's end: a step of ours -/
theorem draw_end {K : PySem.W.Frag} {T : Tb} {S : SA} {Hb H H' : Hp} {n : Nat} {ls : List Int} {m : Int} {t : Nat} (w : World T S Hb H) (st : StOk K S Hb H n) (d : Drw S H H') (s : StA S H' ls m t) (hm : 0 ≤ m) (hl : ∀ x ∈ ls, 0 ≤ x) (hn : ls.length ≤ 63) {n' : Nat} (ht : t ≤ n') : Stp K T S Hb H n Hb H' n' := by
  obtain ⟨g1, g2, ls0, cs0, m0, t0, g3, g4, g5, g6, g7, g8, k1, k2, k3, k4, k5, k6⟩ := st
  have nA : ∀ {b : Addr} {o : HO}, H b = some o → (∀ kvs, o ≠ .dK kvs) → b ≠ S.a := fun e h z => by
    rw [z, g6] at e
    cases e
    exact h _ rfl
  have nL : ∀ {b : Addr} {o : HO}, H b = some o → (∀ xs, o ≠ .lst xs) → b ≠ S.l := fun e h z => by
    rw [z, g7] at e
    cases e
    exact h _ rfl
  refine ⟨Ex.refl _, ⟨fun b o e => ?_, fun q hq => ?_, w.tb, ⟨_, s.ea, fun _ z => by cases z⟩, ⟨_, s.el, fun _ z => by cases z⟩, ⟨_, d.fr _ _ (w.ex _ _ g8) g4 g3, fun _ z => by cases z⟩, w.nt⟩, fun _ => ?_, fun b o e1 e2 e3 e4 _ => ⟨d.fr b o e1 e3 e4, .inl e2⟩, d.dm⟩
  · exact d.fr b o (w.ex b o e) (fun z => by rw [z, g1] at e; cases e) (fun z => by rw [z, g2] at e; cases e)
  · obtain ⟨ps, e, t1, t2⟩ := w.tabs q hq
    refine ⟨ps, d.fr _ _ e (nA e fun _ z => by cases z) (nL e fun _ z => by cases z), t1, fun pos cv hcv => ?_⟩
    obtain ⟨c, e1, e2⟩ := t2 pos cv hcv
    exact ⟨c, e1, d.fr _ _ e2 (nA e2 fun _ z => codeO_no (o := .dK _) (fun _ z => by cases z) z.symm) (nL e2 fun _ z => codeO_no (o := .lst _) (fun _ z => by cases z) z.symm)⟩
  · exact ⟨g1, g2, ls, cs0, m, t, g3, g4, g5, s.ea, s.el, g8, hl, k2, hm, ht, hn, k6⟩
section
variable {K : PySem.W.Frag} {T : Tb} {S : SA} {E : XK} {te : TE} {FE : DT}
theorem Slots.src {Hb H : Hp} {n : Nat} {ρ : List SV} {σ : L2.St} {i : Nat} (sl : Slots K S Hb H n ρ σ) (e : ρ[i]? = some .st) : σ[i]? = some (some (.ref S.a)) ∧ StOk K S Hb H n := by
  obtain ⟨o, e1, e2, e3⟩ := sl.ok i _ e
  exact ⟨by rw [e1, e2], e3⟩
def isSt (ρ : List SV) (i : Nat) : Prop := ρ[i]? = some .st
/-- state["left"], state["turn"], state["cells"] -/
def xStLeft (i : Nat) : DT := fun ρ n P _ => isSt ρ i ∧ ∀ m : Int, 0 ≤ m → P (.int m) n
def xStTurn (i : Nat) : DT := fun ρ n P _ => isSt ρ i ∧ ∀ t : Nat, t ≤ n → P (.int t) n
def xStCells (cs : List Int) (i : Nat) : DT := fun ρ n P _ => isSt ρ i ∧ ((∀ x ∈ cs, 0 ≤ x) → cs.length ≤ 63 → P (.lst (cs.map D.int)) n)
theorem rd_stLeft {i : Nat} : DL.Rd K T S E (tDGet (tVar i) (tC (.str "left"))) (xStLeft i) := fun σ ρ Hb H n P XP Q w sl h q x => by
  obtain ⟨e, st⟩ := sl.src h.1
  obtain ⟨ga, gl, ls, cs, m, t, _, _, _, e1, e2, _, _, _, k3, _⟩ := st
  exact ⟨_, e, S.a, _, rfl, (StA.mk e1 e2 : StA S H ls m t).getL, q.now w (.int m) (h.2 m k3)⟩
theorem rd_stTurn {i : Nat} : DL.Rd K T S E (tDGet (tVar i) (tC (.str "turn"))) (xStTurn i) := fun σ ρ Hb H n P XP Q w sl h q x => by
  obtain ⟨e, st⟩ := sl.src h.1
  obtain ⟨ga, gl, ls, cs, m, t, _, _, _, e1, e2, _, _, _, _, k4, _⟩ := st
  exact ⟨_, e, S.a, _, rfl, (StA.mk e1 e2 : StA S H ls m t).getT, q.now w (.int t) (h.2 t k4)⟩
theorem rd_stCells {i : Nat} : DL.Rd K T S E (tDGet (tVar i) (tC (.str "cells"))) (xStCells S.cs i) := fun σ ρ Hb H n P XP Q w sl h q x => by
  obtain ⟨e, st⟩ := sl.src h.1
  obtain ⟨ga, gl, ls, cs, m, t, _, _, _, e1, e2, e3, _, k2, _, _, _, k6⟩ := st
  exact ⟨_, e, S.a, _, rfl, (StA.mk e1 e2 : StA S H ls m t).getC, q.now w (.lst (SqL.of e3) (DnA.ints cs)) (by rw [← k6.2] at h; exact h.2 k2 k6.1)⟩
theorem st_step {ρ : List SV} {σ : L2.St} {Hb0 H0 Hb H H' : Hp} {n0 n n' : Nat} {DD : DEn} {D : Ends} (a : Stp K T S Hb0 H0 n0 Hb H n) (sl : Sl0 K S H0 Hb H n ρ σ) (q : EOk K T S Hb0 H0 n0 Hb DD D) (s : Stp K T S Hb H n Hb H' n') (p : DD.nx ρ n') : D.nx σ H' :=
  q.nx ρ σ n' Hb H' (Ex.refl _) (a.trans s) (sl.step s) p
/-- state["left"] = e, state["turn"] = e -/
def xsStLeft (i : Nat) (F : DT) : DTS := fun DD ρ n XP => F ρ n (fun d n1 => isSt ρ i ∧ match d with | .int m => 0 ≤ m ∧ DD.nx ρ n1 | _ => False) XP
def xsStTurn (i : Nat) (F : DT) : DTS := fun DD ρ n XP => F ρ n (fun d n1 => isSt ρ i ∧ match d with | .int m => 0 ≤ m ∧ DD.nx ρ m.toNat | _ => False) XP
theorem rds_stLeft {i : Nat} (h1 : DL.Rd K T S E te FE) : RdS K T S E (sDPut (tVar i) (tC (.str "left")) te) (xsStLeft i FE) := fun σ ρ Hb0 H0 n0 Hb H n DD XP D a sl h q x =>
  h1 σ ρ Hb H n _ XP _ a.wd sl.sl h (fun d v n1 Hb1 H1 s hd p => by
    obtain ⟨es, st⟩ := (sl.step s).sl.src p.1
    obtain ⟨ga, gl, ls, cs, m, t, g3, g4, g5, e1, e2, e3, k1, k2, k3, k4, k5, k6⟩ := id st
    have sA : StA S H1 ls m t := ⟨e1, e2⟩
    cases hd with
    | int m' =>
      refine ⟨_, es, S.a, _, rfl, sA.putL, st_step (a.trans s) (sl.step s) (q.up s.ex) (draw_end s.wd st (Drw.refl H1).setA ⟨upd_same, by rw [upd_ne g5.symm]; exact e2⟩ p.2.1 k1 k5 k4) p.2.2⟩
    | _ => exact p.2.elim) (x.step a)
theorem rds_stTurn {i : Nat} (h1 : DL.Rd K T S E te FE) : RdS K T S E (sDPut (tVar i) (tC (.str "turn")) te) (xsStTurn i FE) := fun σ ρ Hb0 H0 n0 Hb H n DD XP D a sl h q x =>
  h1 σ ρ Hb H n _ XP _ a.wd sl.sl h (fun d v n1 Hb1 H1 s hd p => by
    obtain ⟨es, st⟩ := (sl.step s).sl.src p.1
    obtain ⟨ga, gl, ls, cs, m, t, g3, g4, g5, e1, e2, e3, k1, k2, k3, k4, k5, k6⟩ := id st
    have sA : StA S H1 ls m t := ⟨e1, e2⟩
    cases hd with
    | int m' =>
      have em : m' = ((m'.toNat : Nat) : Int) := by have := p.2.1; omega
      refine ⟨_, es, S.a, _, rfl, sA.putT, st_step (a.trans s) (sl.step s) (q.up s.ex) (draw_end s.wd st (Drw.refl H1).setA (t := m'.toNat) ⟨?_, by rw [upd_ne g5.symm]; exact e2⟩ k3 k1 k5 (Nat.le_refl _)) p.2.2⟩
      rw [upd_same, ← em]
    | _ => exact p.2.elim) (x.step a)
/-- while state["left"] == 0 and state["large"] != []: state["left"] = state["large"].pop(0) -/
def xsLoop (i : Nat) : DTS := fun DD ρ n _ => isSt ρ i ∧ DD.nx ρ n
theorem rds_loop {i : Nat} : RdS K T S E (tWhile (tAnd (tTest (tOp (rEqD K) (tDGet (tVar i) (tC (.str "left"))) (tC (.int 0)))) (tTest (tOp (rNeD K) (tDGet (tVar i) (tC (.str "large"))) (tLst tNil))))
    (sDPut (tVar i) (tC (.str "left")) (tBM K "list" rPopAt (tDGet (tVar i) (tC (.str "large"))) (tCons (tC (.int 0)) tNil)))) (xsLoop i) := fun σ ρ Hb0 H0 n0 Hb H n DD XP D a sl h q x => by
  obtain ⟨es, st⟩ := sl.sl.src h.1
  obtain ⟨ga, gl, ls, cs, m, t, g3, g4, gc3, e1, e2, e3, k1, k2, k3, k4, k5, k6⟩ := id st
  refine ⟨fun k σ' H' => σ' = σ ∧ ∃ ls m, k = ls.length ∧ Drw S H H' ∧ StA S H' ls m t ∧ 0 ≤ m ∧ (∀ x ∈ ls, 0 ≤ x) ∧ ls.length ≤ 63, ⟨_, rfl, ls, m, rfl, .refl H, ⟨e1, e2⟩, k3, k1, k5⟩, ?_⟩
  rintro k σ' H' ⟨rfl, ls, m, rfl, d, sA, hm0, hl, hz⟩
  have fin : ∀ {H' : Hp} {ls : List Int} {m : Int}, Drw S H H' → StA S H' ls m t → 0 ≤ m → (∀ x ∈ ls, 0 ≤ x) → ls.length ≤ 63 → D.nx σ' H' := fun d sA h1 h2 h3 =>
    st_step a sl q (draw_end a.wd st d sA h1 h2 h3 k4) h.2
  by_cases hm1 : m = 0
  · subst hm1
    refine ⟨.ref S.a, es, S.a, .int 0, rfl, sA.getL, .int 0, .int 0, .int 0, .int 0, rfl, rfl, _, rfl, iteT ?_⟩
    refine ⟨.ref S.a, es, S.a, .ref S.l, rfl, sA.getG, Nat.zero_le _, fun p hp => ⟨.list (ls.map PyData.int), .list [], .lst (SqL.of (sA.new hp).el) (ints_dp ls), .lst (SqL.of upd_same) .nil, shaped_ints ls, shaped_nil, _, rfl, ?_⟩⟩
    rw [eqv_nil]
    cases ls with
    | nil => exact fin (d.new hp) (sA.new hp) (Int.le_refl _) (fun _ h => nomatch h) (Nat.zero_le _)
    | cons x r =>
      refine iteT ⟨fun σ2 H2 => σ2 = σ' ∧ Drw S H H2 ∧ StA S H2 r x t, fun σ2 H2 ⟨h1, h2, h3⟩ => ⟨r.length, by simp, h1, r, x, rfl, h2, h3, hl x List.mem_cons_self, fun y hy => hl y (List.mem_cons_of_mem _ hy), by simp at hz; omega⟩, ?_⟩
      have sA' := sA.new (o := .lst []) hp
      refine ⟨.ref S.a, es, S.a, .ref S.l, rfl, sA'.getG, .inl ⟨rfl, _, SqL.of sA'.el⟩, S.l, _, 0, 0, .int x, rfl, rfl, sA'.el, by decide, by decide, ?_, rfl, ?_⟩
      · rw [PySem.seqIndex_of (by decide) (by simp <;> omega)]
        rfl
      · have sB : StA S (upd (upd H' p (.lst [])) S.l (.lst (r.map V.int))) r 0 t := ⟨by rw [upd_ne gc3]; exact sA'.ea, upd_same⟩
        refine ⟨.ref S.a, es, S.a, _, rfl, sB.putL, rfl, ((d.new hp).setL).setA, ⟨upd_same, ?_⟩⟩
        rw [upd_ne gc3.symm]
        exact upd_same
  · have ef : PyData.eqv (.int m) (.int 0) = false := by
      show (m == 0) = false
      simpa using hm1
    refine ⟨.ref S.a, es, S.a, .int m, rfl, sA.getL, .int m, .int 0, .int m, .int 0, rfl, rfl, _, rfl, ?_⟩
    rw [ef]
    exact iteF (fin d sA hm0 hl hz)
end
end DL

/-! an error that is caught, kept and handed back; a lambda handed to such a def -/
namespace DL
open L2 PySem PySem.Spec PyProof.Rows
open Evl (Ex ex_l ex_t sz_of)
section
variable {X : Cx} {pins : List (Addr × Obj)} {σ : L2.St} {H : Hp} {s : Shared}
theorem exT_ok {P : Program} {w : PySem.World} {H : Hp} {h : Heap} {a C : Addr} {d : Option Addr} {oe : Obj} {vs : Array Value} (e : h.get? a = some oe) (z : Zc (.ref C) d oe) (hd : oe.data = .fields vs) : ObjOk P w H h a (ExT C d a) :=
  ⟨⟨oe, vs, e, z, hd⟩, ⟨oe, e⟩, fun _ _ ⟨o, v, q, r⟩ k => ⟨o, v, k o q, r⟩⟩
/-- an object that the entry did not know is tracked from now on -/
theorem adopt {a C : Addr} {d : Option Addr} {oe : Obj} {vs : Array Value} (I : Inv X pins σ H s) (e : s.heap.get? a = some oe) (z : Zc (.ref C) d oe) (hd : oe.data = .fields vs) (na : H a = none) (nL : a ≠ X.env.locals)
    (n0 : X.s_0.heap.get? a = none) (np : ∀ p ∈ X.pn ++ pins, p.1 ≠ a) : Inv X pins σ (upd H a (ExT C d a)) s := by
  have old : ∀ b o, X.s_0.heap.get? b = some o → b ≠ a := fun b o q r => by
    rw [r, n0] at q
    cases q
  have tr : ∀ b o, H b = some o → b ≠ a := fun b o q => ne_of_none q na
  have cel : ∀ x c, X.env.cells.lookup x = some c → c ≠ a := fun x c q r => by
    obtain ⟨v, o, h1, h2⟩ := I.cell x c q
    rw [r, e] at h1
    cases h1
    rw [hd] at h2
    cases h2
  refine ⟨I.ok, I.os, I.bare, ⟨I.base.keep, I.base.slot, ?_, I.base.there, ?_, ?_, ?_⟩, I.loc, I.cell, ?_, ?_, ?_, ?_, I.len⟩
  · intro b o q1 q2 q3
    rw [upd_ne (old b o q1)]
    exact I.base.free b o q1 q2 q3
  · intro b xs q
    have r := I.base.tups b xs q
    rw [upd_ne (tr b _ r)]
    exact r
  · intro b o u q
    have r := I.base.frzs b o u q
    rw [upd_ne (tr b _ r)]
    exact r
  · intro b ps q
    obtain ⟨m, r⟩ := I.base.tbls b ps q
    exact ⟨m, by rw [upd_ne (tr b _ r)]; exact r⟩
  · rw [upd_ne nL.symm]
    exact I.free
  · intro x c q
    rw [upd_ne (cel x c q)]
    exact I.freeC x c q
  · intro p hp
    obtain ⟨h1, h2, h3⟩ := I.pin p hp
    exact ⟨h1, by rw [upd_ne (np p hp)]; exact h2, h3⟩
  · intro b u q
    by_cases hb : b = a
    · rw [hb, upd_same] at q
      cases q
      rw [hb]
      exact exT_ok e z hd
    · rw [upd_ne hb] at q
      refine (I.hok b u q).stay (fun _ _ _ r => r) (fun c r => ?_) fun c xs r => ?_
      · rw [upd_ne (tr c _ r)]
        exact r
      · rw [upd_ne (tr c _ r)]
        exact r
end
/-- what try: .. except x as n: y = n wishes of an error: n in slot i, y in slot j -/
def wKeep (K : PySem.W.Frag) (c : Value) (i j m : Nat) (D : Ends) : WX := fun cls d σ H => ∃ b, PySem.W.exmOne K cls c = some b ∧
  (b = true → ∀ a C, cls = .ref C → H a = none → σ.length = m → ∃ C', cls = .ref C' ∧ D.nx (((σ.set i (some (.ref a))).set j (some (.ref a))).set i none) (upd H a (ExT C' d a))) ∧ (b = false → False) ∧ ∃ C, cls = .ref C
section
variable {X : Cx} {x n y : Str} {c : Value} {i j : Nat} {body : List Stmt} {np p1 p2 p3 pos pos' : Pos} {tb : WX → TS}
theorem ps_try_keep (hs : X.stack = X.env :: X.outer) (hf : X.env.frame = some X.env.locals) (hN : X.N.Nodup) (hi : X.N[i]? = some n) (hln : X.env.kindOf n = some .local) (hj : X.N[j]? = some y) (hly : X.env.scope.names.lookup y = some .local) (hc : Names X x c) (hex : X.ex = []) (hd1 : (n == ("__debug__" : Str)) = false) (hd2 : (n == ("__classdict__" : Str)) = false)
    (hb : ∀ (W : WX) (pn : List (Addr × Obj)) (xe : Value → Shared → Prop), Takes (X.tr pn xe) W → PassesOwn (model X.prog X.w) X.A X.env xe → PSs (X.tr pn xe) body (tb W)) :
    PS X (.Try body [.ExceptHandler (some (.Name x np)) (some n) [.Assign [.Name y p1] (.Name n p2) p3] pos'] [] [] pos) (fun D σ H => tb (wKeep X.K c i j X.N.length D) D σ H) := by
  refine ⟨fun pins s σ H D I h => wpAny_Try_except ?_⟩
  have ok := I.ok
  have hfr : X.A.frames = some (X.env :: X.outer) := ok.frames.trans (congrArg some hs)
  have run := (hb (wKeep X.K c i j X.N.length D) (X.pn ++ pins) (fun e s1 => wpAny (model X.prog X.w) X.A (noteFrame e X.env) (fun _ s2 => wpAny (model X.prog X.w) X.A (setFlight e none) (fun _ s3 =>
    wpAny (model X.prog X.w) X.A (handleBy e X.env [.ExceptHandler (some (.Name x np)) (some n) [.Assign [.Name y p1] (.Name n p2) p3] pos']) (SP X pins D) X.xe s3) X.xe s2) X.xe s1) ?_ PassesOwn.looking).run [] s σ H D (I.toTry _) h
  · refine wpAny_mono run (fun f s1 hsp => ?_) fun _ _ he => he
    -- the body came to its end
    cases f with
    | next =>
      obtain ⟨σ', H', J, q⟩ := hsp
      exact wpAny_execs_nil ⟨σ', H', J.ofTry ok, q⟩
    | brk =>
      obtain ⟨σ', H', J, q⟩ := hsp
      exact ⟨σ', H', J.ofTry ok, q⟩
    | cont =>
      obtain ⟨σ', H', J, q⟩ := hsp
      exact ⟨σ', H', J.ofTry ok, q⟩
    | ret u =>
      obtain ⟨v, σ', H', J, r, q⟩ := hsp
      exact ⟨v, σ', H', J.ofTry ok, r, q⟩
  · -- an error comes
    rintro u s' ⟨a, B, sI, pins', σ', H', cls, d, rfl, J', nb, up, sky, na, os, ag, b, hb1, hyes, hno, C, rfl⟩
    have J : Inv X pins σ' H' sI := J'.ofTry ok
    have hB : B.get? a = none := by
      rcases sky with ⟨_, z, _⟩ | ⟨_, z, _⟩ | ⟨_, z, _⟩ <;> exact z
    have sky' : Sky B (X.env :: X.outer) a (Zc (.ref C) d) X.env.locals s'.heap := hs ▸ sky
    refine Sky.land (env := X.env) Zc.steady hfr hf sky' fun h3 fl3 up3 => ?_
    have J3 : Inv X pins σ' H' { s' with heap := h3 } := J.landed nb fl3.1 (up.trans up3) os ag
    obtain ⟨oe3, vs3, he3, hz3, hd3⟩ := fl3.there
    have nfr : a ∉ frs (X.env :: X.outer) := fun hm => by
      obtain ⟨_, o, e1, e2⟩ := fl3.2.2.1.mem hm
      rw [he3] at e1
      cases e1
      exact e2 _ hd3
    have nL : a ≠ X.env.locals := fun z => nfr (List.mem_filterMap.mpr ⟨X.env, List.mem_cons_self, by rw [hf, z]⟩)
    have nF : a ∉ X.fs := fun hm => by
      obtain ⟨e, he, q⟩ := List.mem_filterMap.mp hm
      exact nfr (List.mem_filterMap.mpr ⟨e, List.mem_cons_of_mem _ he, q⟩)
    -- what stood at the entry is another object
    have inB : ∀ b o, sI.heap.get? b = some o → b ≠ X.env.locals → b ∉ X.fs → b ≠ a := fun b o e1 e2 e3 z => by
      have q := nb b o e1 fun hm => (List.mem_cons.mp (J.stkSub b hm)).elim e2 e3
      rw [z, hB] at q
      cases q
    have n0 : X.s_0.heap.get? a = none := by
      cases q : X.s_0.heap.get? a with
      | none => rfl
      | some o =>
        obtain ⟨o', q'⟩ := J.base.there a o q (by rw [hex]; exact fun z => nomatch z)
        exact absurd rfl (inB a o' q' nL nF)
    have npn : ∀ p ∈ X.pn ++ pins, p.1 ≠ a := fun p hp => by
      obtain ⟨h1, _, h3, h4, _⟩ := J.pin p hp
      exact inB p.1 p.2 h1 h3 h4
    refine wpAny_handleBy_cons (codeAny_handlers_test ?_) (by intro q; cases q)
    have S3 := J3.suite he3 hd3 na nL nF
    have LM := PySem.W.exm_one (M := model X.prog X.w) J3.kIn (fun A Q E s k q => wpAny_typeOf_ref (k _ _ he3) (by rw [hz3.1]; exact q)) hb1
    have goes : wpAny (model X.prog X.w) (X.A.mark (some (.ref a))) (eval (.Name x np) X.env) (fun v s1 => v = c ∧ s1 = { s' with heap := h3 }) (fun _ _ => False) { s' with heap := h3 } := by
      obtain ⟨hg, hdbg, hm | ⟨hm, hv, hnn⟩⟩ := hc
      · exact ld_glob (X := X.suite a ((a, oe3) :: (X.pn ++ pins))) S3 hg hm ⟨rfl, rfl⟩ hdbg
      · exact ld_blt (X := X.suite a ((a, oe3) :: (X.pn ++ pins))) S3 hg hm hv ⟨rfl, rfl⟩ hnn hdbg
    refine wpAny_mono goes (fun v s1 hv => ?_) fun _ _ z => False.elim z
    obtain ⟨e1, e2⟩ := hv
    subst e1
    subst e2
    refine LM.here ?_
    cases b with
    | false => exact (hno rfl).elim
    | true =>
      refine codeAny_handlers_suite_as ?_
      refine HandSPX.lands_againZ fl3 fun h4 fl4 up4 => ?_
      have J4 : Inv X pins σ' H' { s' with heap := h4 } := J.landed nb fl4.1 ((up.trans up3).trans up4) os ag
      obtain ⟨oe4, vs4, he4, hz4, hd4⟩ := fl4.there
      have S4 := J4.suite he4 hd4 na nL nF
      refine store_ok (X := X.suite a ((a, oe4) :: (X.pn ++ pins))) (v := .ref a) S4 hN hi (.inl hln) rfl (fun s5 S5 => ?_) (.inr hln)
      have il : i < σ'.length := by
        rw [J.len]
        exact (List.getElem?_eq_some_iff.mp hi).1
      have asg : PSs (X.suite a ((a, oe4) :: (X.pn ++ pins))) [.Assign [.Name y p1] (.Name n p2) p3] (tAsg (tVar i) (gName j)) :=
        pss_one (ps_set (X := X.suite a ((a, oe4) :: (X.pn ++ pins))) (i := j) hN hj (.inl hly) (pe_var (X := X.suite a ((a, oe4) :: (X.pn ++ pins))) (i := i) hi (.inl hln) hd1 hd2) (hf := .inr hly))
      refine wpAny_mono (asg.run [] s5 _ H' { nx := fun σ6 H6 => σ6 = (σ'.set i (some (.ref a))).set j (some (.ref a)) ∧ H6 = H', rt := fun _ _ => False } S5 ⟨.ref a, List.getElem?_set_self il, rfl, rfl⟩) (fun f s6 hsp => ?_) (fun _ _ z => False.elim z)
      cases f with
      | next =>
        obtain ⟨σ6, H6, S6, rfl, rfl⟩ := hsp
        refine gone_ok (X := X.suite a ((a, oe4) :: (X.pn ++ pins))) S6 hN hi hln fun s7 S7 => ?_
        obtain ⟨e7, _⟩ := S7.pin (a, oe4) (List.mem_append_left _ List.mem_cons_self)
        obtain ⟨C', eC, q⟩ := hyes rfl a C rfl na J.len
        cases eC
        exact ⟨_, _, adopt (S7.unsuite ok) e7 hz4 hd4 na nL n0 npn, q⟩
      | brk =>
        obtain ⟨_, _, _, q⟩ := hsp
        exact False.elim q
      | cont =>
        obtain ⟨_, _, _, q⟩ := hsp
        exact False.elim q
      | ret u =>
        obtain ⟨_, _, _, _, _, q⟩ := hsp
        exact False.elim q
end
end DL

/-! x(lambda: body), x the def that hands back what was caught -/
namespace DL
open L2 PySem PySem.Spec PyProof.Rows
open Evl (Ex ex_l ex_t sz_of)
/-- caught = None; try: work() except S as error: caught = error; return caught -/
def TTc (K : PySem.W.Frag) (CS : Addr) : (XK → Hp → VK → Prop) → Hp → VK → Prop := fun tl H Q =>
  tl (fun cls od H' => ∃ C, cls = .ref C ∧ PySem.W.exmOne K cls (.ref CS) = some true ∧ ∀ a, H' a = none → Q (.ref a) (upd H' a (ExT C od a))) H (fun _ H' => ∃ v, (some (some V.non) : Option (Option V)) = some (some v) ∧ Q v H')
def sCaught : Str := "caught"
def sError : Str := "error"
section
variable {X : Cx}
theorem caught_gives {x e q : Str} {sg : Scope} {g CS : Addr} {cdg : Value} {j1 : Nat} {p0 p1 p2 p3 p4 p5 p6 p7 p8 p9 pa pb pc pd : Pos} (hge : sg.names.lookup e = some .globalImplicit) (hme : X.mg e = some (.ref CS)) (hde : (e == ("__debug__" : Str)) = false)
    (h1 : sg.names.lookup sCaught = some .local) (h2 : sg.names.lookup sError = some .local) :
    LamX.GivesTo X ["work", "caught", "error"] x sg g cdg [.Assign [.Name "caught" p0] (.Constant .none j1 p1) p2,
      .Try [.Expr (.Call (.Name "work" p3) [] [] p4) p5] [.ExceptHandler (some (.Name e p6)) (some "error") [.Assign [.Name "caught" p7] (.Name "error" p8) p9] pa] [] [] pb, .Return (some (.Name "caught" pc)) pd] "work" q (TTc X.K CS) := by
  intro f c' s H Q tl act hc h
  have hgl : Gl (cxOf C8.CX0 X.prog X.w X.K X.mg X.base ["work", "caught", "error"] x sg g cdg X.A X.stack s H C8.E0).nox e := hge
  have nd : (["work", "caught", "error"] : List Str).Nodup := by decide +kernel
  refine ⟨_, pss_cons (ps_set (X := (cxOf C8.CX0 X.prog X.w X.K X.mg X.base ["work", "caught", "error"] x sg g cdg X.A X.stack s H C8.E0).nox) (i := 1) nd rfl (.inl h1) pe_non (hf := .inr h1))
    (pss_cons (ps_try_keep (X := (cxOf C8.CX0 X.prog X.w X.K X.mg X.base ["work", "caught", "error"] x sg g cdg X.A X.stack s H C8.E0).nox) (i := 2) (j := 1) (c := .ref CS)
      (tb := fun W D σ H => ∃ Ech : XK, (∀ cls d σ' H', Ech cls d H' → W cls d σ' H') ∧ σ[0]? = some (some (.ref f)) ∧ H c' = some (LamX.CodeO c' q) ∧ tl Ech H (fun _ H' => D.nx σ H'))
      rfl rfl nd rfl h2 rfl h1 ⟨hgl, hde, .inl hme⟩ rfl (by decide) (by decide) (fun W pn xe tk _ => ?_))
    (pss_one (ps_ret (pe_var (X := (cxOf C8.CX0 X.prog X.w X.K X.mg X.base ["work", "caught", "error"] x sg g cdg X.A X.stack s H C8.E0).nox) (i := 1) rfl (.inl h1))))), ?_⟩
  · refine ⟨fun pins s' σ H' D I h' => ?_⟩
    obtain ⟨Ech, hW, g1, g2, g3⟩ := h'
    exact (pss_one (ps_expr (act W pn xe Ech _ _ tk hW))).run pins s' σ H' D I ⟨g1, g2, g3⟩
  · refine ⟨fun cls od H' => ∃ C, cls = .ref C ∧ PySem.W.exmOne X.K cls (.ref CS) = some true ∧ ∀ a, H' a = none → Q (.ref a) (upd H' a (ExT C od a)), fun cls od σ' H' hx => ?_, rfl, hc, h⟩
    obtain ⟨C, rfl, em, hq⟩ := hx
    refine ⟨true, em, fun _ a C2 e2 na hl => ⟨C, rfl, ?_⟩, (fun z => nomatch z), C, rfl⟩
    refine ⟨.ref a, ?_, hq a na⟩
    have l3 : σ'.length = 3 := hl
    rw [List.getElem?_set_ne (by decide), List.getElem?_set_self (by rw [List.length_set, l3]; decide)]
end
/-- what is known of the class of an error that the program may raise -/
structure ErrC (K : PySem.W.Frag) (CS C : Addr) : Prop where
  ec : ExcC K C
  nt : NoTy K C
  em : PySem.W.exmOne K (.ref C) (.ref CS) = some true
section
variable {K : PySem.W.Frag} {T : Tb} {S : SA} {E : XK}
def xLam (K : PySem.W.Frag) (CS : Addr) (F : DT) : DT := fun ρ n P _ => F ρ n (fun _ n1 => P .non n1) (fun C ns ds n1 => ErrC K CS C ∧ P (.exc C ns ds) n1)
/-- all but the tables stays: a step of ours -/
theorem Stp.lam {Hb H H1 : Hp} {n : Nat} (w : World T S Hb H) (e : LamX.ExtN H H1) (t : LamX.Tabs T H1) : Stp K T S Hb H n Hb H1 n := by
  have k : ∀ b o, H b = some o → (∀ ps, o ≠ .tbl ps) → H1 b = some o := e
  have kO : ∀ {b : Addr}, Obn H b → Obn H1 b := fun ⟨o, h, ho⟩ => ⟨o, k _ _ h ho, ho⟩
  refine ⟨Ex.refl _, ⟨fun b o q => k b o (w.ex b o q) (fun ps z => by subst z; exact w.nt b ps q), t, w.tb, kO w.sa, kO w.sl, kO w.sc, w.nt⟩, fun h0 => ?_, fun b o e1 e2 _ _ e5 => ⟨k b o e1 e5, .inl e2⟩, fun b f o h => ?_⟩
  · obtain ⟨g1, g2, ls, cs, m, t, g3, g4, g5, g6, g7, g8, rest⟩ := h0
    exact ⟨g1, g2, ls, cs, m, t, g3, g4, g5, k _ _ g6 (fun _ z => by cases z), k _ _ g7 (fun _ z => by cases z), g8, rest⟩
  · by_cases ht : ∃ ps, o = .tbl ps
    · exact ht
    · exact f o (k b o h fun ps z => ht ⟨ps, z⟩)
theorem rd_lam {CS : Addr} {te : XK → TE} {F : DT} (h : ∀ E, DL.Rd K T S E (te E) F) : DL.Rd K T S E (LamX.tLam T (TTc K CS) te) (xLam K CS F) := fun σ ρ Hb H n P XP Q w sl hf q x => by
  refine ⟨w.tabs, fun H1 eN T1 => ?_⟩
  have s : Stp K T S Hb H n Hb H1 n := .lam w eN T1
  refine h _ σ ρ Hb H1 n _ _ _ s.wd (sl.step s) hf (fun d v n2 Hb2 H2 s2 hv p => ⟨.non, rfl, q .non _ n2 Hb2 H2 (s.trans s2) .non p⟩) fun C ns ds n2 od Hb2 H2 s2 hx p => ?_
  obtain ⟨ec, p⟩ := p
  refine ⟨C, rfl, ec.em, fun a na => (q.step (s.trans s2)).new s2.wd na ?_ p⟩
  obtain ⟨fs, h0, h1, h2⟩ := hx
  have eb := Ex.new (o := ExT C od a) (free_of s2.wd.ex na)
  refine .exc ec.ec ec.nt upd_same ?_ h1 (h2.up eb)
  rcases h0 with h0 | ⟨dd, h0, hne, h3⟩
  · exact .inl h0
  · exact .inr ⟨dd, h0, hne, eb _ _ h3⟩
end
end DL

/-! promises that ask for a frame in which nothing is being shown -/
namespace DL
open L2 PySem PySem.Spec PyProof.Rows
open Evl (Ex ex_l ex_t sz_of)
/-- what a def promises where no repr is under way -/
structure FnG (P : Program) (w : PySem.World) (K : PySem.W.Frag) (mg : Str → Option Value) (base : Heap) (CX : CXT) (k : Nat) (f : Addr) (fd : FuncData) (ps : List Str) (sp : Sp) : Prop where
  many : ∀ vs H Q E, sp vs H Q E → vs.length = ps.length
  goes : ∀ (A : Around), A.guards = some [] → Room k A → ∀ (out : List Env) (s : Shared) (H : Hp) (args : PySem.Args) (us : List Value) (vs : List V) (Q : VK) (E : XK), sp vs H Q E → Vals vs us → BindsTo s fd args (ps.zip us) → Env0 P w K mg base A out s H →
    codeAny (model P w) A (.call (.ref f) args) (CR CX out P w H s Q E) s
section
variable {P : Program} {w : PySem.World} {K : PySem.W.Frag} {mg : Str → Option Value} {base : Heap} {CX : CXT} {j k : Nat} {f : Addr} {fd : FuncData} {ps : List Str} {sp : Sp}
theorem FnG.of (F : FnOk P w K mg base CX k f fd ps sp) : FnG P w K mg base CX k f fd ps sp :=
  ⟨F.len, fun A _ hr out s H args us vs Q E h r b e => F.run A out s H args us vs Q E hr e b r h⟩
theorem FnG.mono (F : FnG P w K mg base CX j f fd ps sp) (h : j ≤ k) : FnG P w K mg base CX k f fd ps sp :=
  ⟨F.many, fun A g hr => F.goes A g (hr.mono h)⟩
/-- from the body's reading in a frame that shows nothing -/
theorem fnG_of {x qual : Str} {st : Stmt} {N : List Str} (F : Fun K x qual st f fd) (Sc : FnScope N ps (defScope st)) (len : ∀ vs H Q E, sp vs H Q E → vs.length = ps.length)
    (hb : ∀ (cdv : Value) (A : Around) (out : List Env) (s : Shared) (H : Hp) (vs : List V) (Q : VK) (E : XK), A.guards = some [] → Room k (A.deeper (envOfC qual (defScope st) s.heap.objs.size f cdv)) → sp vs H Q E →
      ∃ t, PSs (cxOf CX P w K mg base N qual (defScope st) f cdv A out s H E) (defBody st) t ∧ t { nx := fun _ H' => Q .non H', rt := Q } (start N vs) H) : FnG P w K mg base CX (k + 1) f fd ps sp := by
  obtain ⟨oc, od, kV, doc, pm, an, cdv, ct, osl, rfl, lk, hcd⟩ := F.ex
  exact ⟨len, fun A g hr out s H args us vs Q E h r b e => LamX.run_ofS lk hcd Sc hr e b r (len _ _ _ _ h) fun hr2 => hb cdv A out s H vs Q E g hr2 h⟩
end
section
variable {X : Cx} {CX : CXT} {k : Nat} {f : Addr} {fd : FuncData} {ps : List Str} {ds : List Value} {dvs : List V} {sp : Sp} {E : XK} {x : Str} {p pos : Pos} {e : Expr} {es : List Expr} {t : TA}
theorem runG {pins : List (Addr × Obj)} {σ : L2.St} {H : Hp} {s : Shared} {Q : VK} {us : List Value} {vs : List V} (F : FnG X.prog X.w X.K X.mg X.base CX k f fd ps sp) (g : X.A.guards = some []) (hr : Room k X.A) (hb : Binds X.K fd ps ds) (hd : Vals dvs ds) (hx : Passes CX X E)
    (I : Inv X pins σ H s) (r : Vals vs us) (h : sp (vs ++ dvs) H Q E) : wpAny (model X.prog X.w) X.A (call (.ref f) us) (EP X pins σ Q) X.xe s := by
  have all := r.append hd
  have hz : (us ++ ds).length = ps.length := all.length ▸ F.many _ _ _ _ h
  have go := F.goes X.A g hr X.stack s H ⟨us, []⟩ (us ++ ds) (vs ++ dvs) Q E h all (hb s us I.kIn hz) I.env0
  refine wpAny_call (codeAny_mono go ?_)
  rintro (e | fl) s2 hq
  · exact hx pins σ H s e s2 I hq
  · cases fl with
    | ret u => exact I.after hq
    | _ => exact False.elim hq
theorem pe_callG (F : FnG X.prog X.w X.K X.mg X.base CX k f fd ps sp) (g : X.A.guards = some []) (hr : Room k X.A) (hg : Gl X x) (hm : X.mg x = some (.ref f)) (hk : PySem.W.keepIn X.K (.ref f) = true) (hb : Binds X.K fd ps ds) (hd : Vals dvs ds) (hx : Passes CX X E)
    (ha : PA X (e :: es) t) (hdb : (x == ("__debug__" : Str)) = false := by decide) (he : starEach (e :: es) X.env = (false, eval e X.env) :: starEach es X.env := by rfl) (hpl : (backTo pos (starEach es X.env)).any (·.1) = false := by rfl) :
    PE X (.Call (.Name x p) (e :: es) [] pos) (tCall sp dvs E t) :=
  ⟨fun pins s σ H Q I h => wpAny_Call_Name_kw (ld_glob I hg hm (PySem.W.callWith_K (h₀ := X.base) I.ok.mod.kin hk (thn (ha.run pos pins s σ H _ I h) fun us s1 q => by
    obtain ⟨vs, H1, I1, r, q⟩ := q
    exact ⟨I1.kIn, runG F g hr hb hd hx I1 r q⟩) he hpl) hdb)⟩
end
section
variable {P : Program} {w : PySem.World} {K : PySem.W.Frag} {T : Tb} {mg : Str → Option Value} {base : Heap}
theorem fnG_okD {x qual : Str} {st : Stmt} {f : Addr} {fd : FuncData} {N ps : List Str} {k : Nat} {DS : DSp0} (F : Fun K x qual st f fd) (Sc : FnScope N ps (defScope st)) (len : ∀ ss n P, DS ss n P → ss.length = ps.length)
    (hb : ∀ (S : SA) (cdv : Value) (A : Around) (outer : List Env) (s : Shared) (H : Hp) (E : XK), A.guards = some [] → Room k (A.deeper (envOfC qual (defScope st) s.heap.objs.size f cdv)) →
      ∃ ts G, PSs (cxOf CX0 P w K mg base N qual (defScope st) f cdv A outer s H E).nox (defBody st) ts ∧ RdS K T S E0 ts G ∧ ∀ ss n P, DS ss n P → G { nx := fun _ n => P .non n, rt := P } (startS N ss) n xF) :
    FnG P w K mg base CX0 (k + 1) f fd ps (sp0 K T DS) := by
  refine fnG_of F Sc (fun vs H Q E h => ?_) (fun cdv A outer s H vs Q E g hr h => ?_)
  · obtain ⟨S, Hb, n, ss, P, XP, _, ha, ⟨_, hd⟩, _⟩ := h
    rw [← ha.len]
    exact len ss n P hd
  · obtain ⟨S, Hb, n, ss, P, XP, wd, ha, ⟨ho, hd⟩, q, _⟩ := h
    obtain ⟨ts, G, h1, h2, h3⟩ := hb S cdv A outer s H E g hr
    exact ⟨ts, h1.nox, h2 _ _ Hb H n Hb H n _ xF _ (.refl wd) ⟨.start ha (noL_of ho), start_fr ho⟩ (h3 ss n P hd) ⟨fun ρ σ n' Hb' H' _ st _ p => q _ _ _ _ _ st .non p, q, fun _ _ _ _ _ _ _ _ p => p.elim, fun _ _ _ _ _ _ _ _ p => p.elim⟩ .none⟩
end
end DL

/-! the end of a law that shows what it saw -/
namespace DL
open L2 PySem PySem.Spec PyProof.Rows LamX
/-- what the walk knows at the entry: empty tables ts, the script at a where the frame has it not -/
def begH (K : PySem.W.Frag) (ts : List Addr) (a : Addr) (ob : Obj) (u : HO) : Hp := fun b => if b ∈ ts then some (.tbl #[]) else if b = a ∧ K.lookup a = none then some (.frz ob u) else none
section
variable {K : PySem.W.Frag} {ts : List Addr} {a b : Addr} {ob : Obj} {u : HO}
theorem begH_t (h : b ∈ ts) : begH K ts a ob u b = some (.tbl #[]) := if_pos h
theorem begH_a (h : a ∉ ts) (k : K.lookup a = none) : begH K ts a ob u a = some (.frz ob u) := by
  unfold begH
  rw [if_neg h, if_pos ⟨rfl, k⟩]
theorem begH_inv {o : HO} (h : begH K ts a ob u b = some o) : (b ∈ ts ∧ o = .tbl #[]) ∨ (b ∉ ts ∧ b = a ∧ K.lookup a = none ∧ o = .frz ob u) := by
  unfold begH at h
  split at h
  · rename_i m
    exact .inl ⟨m, (Option.some.inj h).symm⟩
  · rename_i m
    split at h
    · rename_i q
      exact .inr ⟨m, q.1, q.2, (Option.some.inj h).symm⟩
    · cases h
theorem begH_n (h1 : b ∉ ts) (h2 : b = a → K.lookup a = none → False) : begH K ts a ob u b = none := by
  cases h : begH K ts a ob u b with
  | none => rfl
  | some o =>
    rcases begH_inv h with ⟨m, _⟩ | ⟨_, e, k, _⟩
    · exact (h1 m).elim
    · exact (h2 e k).elim
end
section
variable {P : Program} {w : PySem.World} {K : PySem.W.Frag} {mg mb : Str → Option Value} {CX : CXT} {k : Nat} {fa a : Addr} {cs : List (Addr × Addr)} {fd : FuncData} {x : Str} {sp : Sp} {s : Shared} {vs : List Value} {ns : List Int}
theorem end_call (KX : K.In s.heap) (gl : s.heap.Ns mainGlobals mg) (bl : s.heap.Ns builtinsNs mb) (bb : ∀ x : Str, x ≠ "__name__" → mb x = bootBuiltins x) (nl : s.heap.NoLimit) (ng : s.gens = #[])
    (hT : ∀ p ∈ cs, s.heap.get? p.2 = some { cls := .none, data := .fields #[] }) (nT : ∀ p ∈ cs, K.lookup p.2 = none) (hC : ∀ p ∈ cs, PySem.W.CodeHd s.heap p.1 p.2)
    (bm : ∃ (m : Addr) (o : Obj), mg "__builtins__" = some (.ref m) ∧ m ≠ builtinsNs ∧ s.heap.get? m = some o ∧ o.cls = .type "module" ∧ o.dict = some builtinsNs ∧ o.data = .plain)
    (ha : s.heap.get? a = some { cls := .type "list", data := .seq vs.toArray }) (hi : IntsAre vs ns) (hl : ns.length ≤ sizeLine) (hr : Room k callerA)
    (F : ∀ base : Heap, K.In base → base.Ns mainGlobals mg → (∀ p ∈ cs, TabB base mg p.1 p.2) → FnG P w K mg base CX k fa fd [x] sp) (hbind : ∀ (s : Shared) (u : Value), BindsTo s fd ⟨[u], []⟩ [(x, u)])
    (hsp : ∀ H : Hp, (∀ p ∈ cs, H p.2 = some (.tbl #[])) → SqL K H a (ns.map V.int) → sp [.ref a] H (fun v _ => v = .bl true) fun _ _ _ => False)
    (hX : ∀ H e s', CX [] H s (fun _ _ _ => False) e s' → False) :
    codeAny (model P w) callerA (.call (.ref fa) ⟨[.ref a], []⟩) (fun r s' => r = .ok (.ret (.bool true)) ∧ OldK s.heap s'.heap ∧ s'.os = s.os ∧ AllBare s'.gens) s := by
  have hv := vals_ints hi
  have hn : vs.length = ns.length := hi.length
  have seen : ∀ b ∈ cs.map (·.2), s.heap.get? b = some { cls := .none, data := .fields #[] } ∧ K.lookup b = none := fun b m => by
    obtain ⟨p, hp, rfl⟩ := List.mem_map.mp m
    exact ⟨hT p hp, nT p hp⟩
  have na : a ∉ cs.map (·.2) := fun m => by
    have z := (seen a m).1
    rw [ha] at z
    injection z with z
    injection z with _ _ z
    cases z
  have here : ∀ p ∈ cs, p.2 ∈ cs.map (·.2) := fun p hp => List.mem_map.mpr ⟨p, hp, rfl⟩
  let H : Hp := begH K (cs.map (·.2)) a { cls := .type "list", data := .seq vs.toArray } (.lst (ns.map V.int))
  have HT : ∀ p ∈ cs, H p.2 = some (.tbl #[]) := fun p hp => begH_t (here p hp)
  have HS : SqL K H a (ns.map V.int) := by
    cases q : K.lookup a with
    | none => exact .inl (.inr ⟨_, begH_a na q⟩)
    | some o =>
      have z := KX a o q
      rw [ha] at z
      cases z
      exact .inr ⟨_, vs.toArray, _, q, rfl, rfl, rfl, by simpa [hn] using hl, by simpa using hv⟩
  have HO : HOk P w H s.heap := fun b o h => by
    rcases begH_inv h with ⟨m, rfl⟩ | ⟨_, rfl, _, rfl⟩
    · exact (seen b m).1
    · exact ⟨ha, by simpa using hl, vs, _, hv, ha⟩
  -- an object of another form is not tracked
  have apart : ∀ {b : Addr} {o : Obj}, s.heap.get? b = some o → o.data ≠ .seq vs.toArray → o.data ≠ .fields #[] → H b = none := fun {b o} e h1 h2 => begH_n (fun m => by
    have z := (seen b m).1
    rw [e] at z
    cases z
    exact h2 rfl) fun r _ => by
      subst r
      rw [ha] at e
      cases e
      exact h1 rfl
  have space : ∀ {b : Addr} {m : Str → Option Value}, s.heap.Ns b m → (hidT s.heap H).Ns b m := fun {b m} ⟨o, es, ep, e, d, r⟩ => ⟨o, es, ep, hidT_get e (apart e (by rw [d]; exact fun z => by cases z) (by rw [d]; exact fun z => by cases z)), d, r⟩
  have kin : K.In (hidT s.heap H) := fun b o e => hidT_get (KX b o e) (begH_n (fun m => by rw [(seen b m).2] at e; cases e) fun r q => by rw [r, q] at e; cases e)
  have md : L2.Mod K mg (hidT s.heap H) := ⟨kin, space gl, ⟨mb, space bl, bb⟩, nl.imp fun c h => ⟨space h.1, h.2⟩⟩
  have glD : ∃ o es ep, s.heap.get? mainGlobals = some o ∧ o.data = .dict es ep := by
    obtain ⟨o, es, ep, e, d, _⟩ := gl
    exact ⟨o, es, ep, e, d⟩
  have tb : ∀ p ∈ cs, TabB (hidT s.heap H) mg p.1 p.2 := fun p hp => by
    obtain ⟨og, es, ep, eg, dg⟩ := glD
    refine ⟨?_, ?_, fun z => by rw [z, hT p hp] at eg; cases eg; cases dg⟩
    · obtain ⟨o, us, f, tf, fl, tg, iF, tx, tt, e, c1, c2, c3, rest⟩ := hC p hp
      refine ⟨o, us, f, tf, fl, tg, iF, tx, tt, hidT_get e (apart e (by rw [c2]; exact fun z => by cases z) ?_), c1, c2, c3, rest⟩
      rw [c2]
      intro z
      cases z
      simp at c3
    · obtain ⟨m, o, b1, b2, b3, b4, b5, b6⟩ := bm
      refine ⟨m, o, b1, b2, fun z => ?_, fun z => ?_, hidT_get b3 (apart b3 (by rw [b6]; exact fun z => by cases z) (by rw [b6]; exact fun z => by cases z)), b4, b5, b6⟩
      · rw [z, eg] at b3
        cases b3
        rw [dg] at b6
        cases b6
      · rw [z, hT p hp] at b3
        cases b3
        cases b6
  have e0 : Env0 P w K mg (hidT s.heap H) callerA [] s H := {
    frames := rfl
    mod := md
    bs := fun b o e => of_hidT e
    bsz := Nat.le_of_eq (hidT_size _ _)
    funs := trivial
    frf := fun b m => absurd m (by show b ∉ ([] : List Addr); simp)
    hok := HO
    bare := .of_eq ng }
  refine codeAny_mono ((F _ kin (space gl) tb).goes callerA rfl hr [] s H ⟨[.ref a], []⟩ [.ref a] [.ref a] _ _ (hsp H HT HS) (.cons rfl .nil) (hbind s (.ref a)) e0) ?_
  rintro (e | fl) s2 h
  · exact (hX H e s2 h).elim
  · cases fl with
    | ret u =>
      obtain ⟨v, H2, os, bare, un, ok2, rv, rfl⟩ := h
      have eu : u = Value.bool true := rv
      subst eu
      have rest : ∀ b o, b ∉ cs.map (·.2) → s.heap.get? b = some o → s2.heap.get? b = some o := fun b o m e => by
        cases q : H b with
        | none => exact un.keep b o e q (by show b ∉ ([] : List Addr); simp) (by simp)
        | some y =>
          rcases begH_inv q with ⟨m2, _⟩ | ⟨_, rfl, _, rfl⟩
          · exact (m m2).elim
          · rw [ha] at e
            cases e
            exact (ok2 _ _ (un.frzs _ _ _ q)).1
      have tabs : ∀ p ∈ cs, ∃ more : Array Value, s2.heap.get? p.2 = some { cls := .none, data := .fields (#[] ++ more) } := fun p hp => (un.tbls p.2 #[] (HT p hp)).imp fun more z => ok2 p.2 (.tbl (#[] ++ more)) z
      refine ⟨rfl, ⟨fun b o e => ?_, fun b o e => ?_⟩, os, bare⟩ <;> by_cases m : b ∈ cs.map (·.2)
      · obtain ⟨p, hp, rfl⟩ := List.mem_map.mp m
        obtain ⟨more, z⟩ := tabs p hp
        rw [hT p hp] at e
        cases e
        exact .inr (.inl ⟨((hC p hp).tab (hT p hp)).isCodeTable, rfl, #[], more, rfl, z⟩)
      · exact .inl (rest b o m e)
      · obtain ⟨p, hp, rfl⟩ := List.mem_map.mp m
        exact (tabs p hp).elim fun _ z => ⟨_, z⟩
      · exact ⟨o, rest b o m e⟩
    | _ => exact False.elim h
/-- what is known of the law's promise at the head's heap h -/
def LawG (l : PySem.W.OpenLaw) (w : PySem.World) (K : PySem.W.Frag) (CX : CXT) (k n : Nat) (x : Str) (mg : Str → Option Value) (fa : Addr) (h : Heap) : Prop :=
  ∃ (cs : List (Addr × Addr)) (fd : FuncData) (sp : Sp), ((∀ p ∈ cs, h.get? p.2 = some { cls := .none, data := .fields #[] }) ∧ (∀ p ∈ cs, PySem.W.CodeHd h p.1 p.2) ∧ ∀ p ∈ cs, K.lookup p.2 = none) ∧
    (∀ base : Heap, K.In base → base.Ns mainGlobals mg → (∀ p ∈ cs, TabB base mg p.1 p.2) → FnG l.prog w K mg base CX k fa fd [x] sp) ∧ (∀ (s : Shared) (u : Value), BindsTo s fd ⟨[u], []⟩ [(x, u)]) ∧
    ∀ (H : Hp) (a : Addr) (ns : List Int), ns.length ≤ n → (∀ z ∈ ns, Builtin.Int.intBits z ≤ 1048576) → (∀ p ∈ cs, H p.2 = some (.tbl #[])) → SqL K H a (ns.map V.int) → sp [.ref a] H (fun v _ => v = .bl true) fun _ _ _ => False
end
end DL

/-! objects that are made: __init__ and its caller -/
namespace DL
open L2 PySem PySem.Spec PyProof.Rows
open Evl (Ex ex_l ex_t sz_of)
def noMe : List SV → Bool
  | [] => true
  | .me _ _ _ _ :: _ => false
  | _ :: ss => noMe ss
theorem noMe_get : ∀ {ρ : List SV} {i : Nat} {x C : Addr} {ns : List Str} {ds : List D}, noMe ρ = true → ρ[i]? ≠ some (.me x C ns ds)
  | [], i, x, C, ns, ds, _ => by simp
  | s :: ss, 0, x, C, ns, ds, h => by
    intro e
    simp at e
    subst e
    exact absurd h (by simp [noMe])
  | s :: ss, i + 1, x, C, ns, ds, h => by
    have h' : noMe ss = true := by cases s <;> first | exact h | (exact absurd h (by simp [noMe]))
    simpa using noMe_get (i := i) h'
def meD (ρ : List SV) (k : Addr → Addr → List Str → List D → List SV → Prop) : Prop := match ρ with
  | .me x C ns ds :: r => k x C ns ds r
  | _ => False
def xsMe (K : PySem.W.Frag) (f : Str) (F : DT) : DTS := fun DD ρ n XP => F ρ n (fun d n1 => meD ρ fun x C ns ds r => noMe r = true ∧ Cls K C ∧ NoAttr K C f ∧ ns.length < 900 ∧ ns.contains f = false ∧ DD.nx (.me x C (ns ++ [f]) (ds ++ [d]) :: r) n1) XP
theorem putF_new {f : Str} {v : V} : ∀ {fs : List (Str × V)}, (fs.map (·.1)).contains f = false → (putF f v fs) = fs ++ [(f, v)]
  | [], _ => rfl
  | (g, y) :: fs, h => by
    have h0 : ((g :: fs.map (·.1)).contains f) = false := h
    rw [List.contains_cons, Bool.or_eq_false_iff] at h0
    have hg : ¬ g = f := fun e => by
      rw [e] at h0
      simp at h0
    show (if g = f then (g, v) :: fs else (g, y) :: putF f v fs) = _
    rw [if_neg hg, putF_new h0.2]
    rfl
section
variable {K : PySem.W.Frag} {T : Tb} {S : SA} {E : XK} {Hb H Hb1 H1 : Hp} {n n1 : Nat} {te : TE} {FE : DT} {ta : TA} {G : DTA}
/-- an object of one's own is rewritten -/
theorem World.put {p : Addr} {o u : HO} (w : World T S Hb H) (h1 : H p = some o) (h2 : Hb p = none) (nt : ∀ ps, o ≠ .tbl ps) (nx : ∀ φ, o ≠ .ext φ) (nu : ∀ ps, u ≠ .tbl ps) : World T S Hb (upd H p u) := by
  refine ⟨fun b y e => by rw [upd_ne (fun z => by rw [z, h2] at e; cases e)]; exact w.ex b y e, fun q hq => ?_, w.tb, w.sa.upd nu, w.sl.upd nu, w.sc.upd nu, w.nt⟩
  obtain ⟨ps, e, t1, t2⟩ := w.tabs q hq
  refine ⟨ps, by rw [upd_ne (fun z => by rw [z, h1] at e; exact nt _ (Option.some.inj e))]; exact e, t1, fun pos cv hcv => ?_⟩
  obtain ⟨c, e1, e2⟩ := t2 pos cv hcv
  exact ⟨c, e1, by rw [upd_ne (fun z => by rw [z, h1] at e2; exact codeO_no nx (Option.some.inj e2))]; exact e2⟩
theorem rds_fldM {f : Str} (h1 : DL.Rd K T S E te FE) : RdS K T S E (sFld K (tVar 0) te f) (xsMe K f FE) := fun σ ρ Hb0 H0 n0 Hb H n DD XP D a sl h q x => by
  refine h1 σ ρ Hb H n _ XP _ a.wd sl.sl h (fun d v n1 Hb1 H1 s hd pp => ?_) (x.step a)
  cases ρ with
  | nil => exact pp.elim
  | cons s0 r =>
    cases s0 with
    | me y C ns ds =>
      obtain ⟨nm, hc, ha, hl, hf, pp⟩ := pp
      have sl1 := sl.step s
      obtain ⟨o, e1, rfl, dx, fs, g1, g2, g3, g4, g5, g6, g7⟩ := sl1.sl.ok 0 _ rfl
      subst g6
      have f0 : Fresh H0 y := sl1.fr 0 _ y rfl rfl e1
      have ht : ∀ ps, HO.ins C dx fs ≠ .tbl ps := fun ps z => by cases z
      have hx : ∀ φ, HO.ins C dx fs ≠ .ext φ := fun ps z => by cases z
      have nu : ∀ ps, HO.ins C dx (putF f v fs) ≠ .tbl ps := fun ps z => by cases z
      have as := a.trans s
      refine ⟨.ref y, e1, y, C, dx, fs, rfl, g1, hc, ha, by rw [List.length_map] at hl; omega, ?_⟩
      have keep : ∀ {b : Addr} {o : HO}, H1 b = some o → b ≠ y → upd H1 y (.ins C dx (putF f v fs)) b = some o := fun e hb => by rw [upd_ne hb]; exact e
      refine q.nx (.me y C (fs.map (·.1) ++ [f]) (ds ++ [d]) :: r) _ n1 Hb1 _ s.ex ⟨as.ex, as.wd.put g1 g2 ht hx nu, fun h0 => ?_, fun b o e1 e2 e3 e4 e5 => ?_, fun b e => as.dm b (dm_upd nu b e)⟩ ⟨⟨sl1.sl.len, fun j t ej => ?_, fun j k p xs ys jk ej ek sj sk => ?_⟩, fun j t p ej eo sj => ?_⟩ pp
      · obtain ⟨k1, k2, ls, cs, m, t, k3, k4, k5, k6, k7, k8, rest⟩ := as.st h0
        exact ⟨k1, k2, ls, cs, m, t, k3, k4, k5, keep k6 g3.symm, keep k7 g4.symm, k8, rest⟩
      · have hb : b ≠ y := f0.ne e1 e5
        rw [upd_ne hb]
        exact as.own0 b o e1 e2 e3 e4 e5
      · cases j with
        | zero =>
          cases ej
          refine ⟨_, e1, rfl, dx, _, upd_same, g2, g3, g4, g5, ?_, ?_⟩
          · rw [putF_new hf]
            simp
          · rw [putF_new hf]
            simpa using g7.app (.one hd)
        | succ j =>
          have ej' : (SV.me y C (fs.map (·.1)) ds :: r)[j + 1]? = some t := ej
          have ejr : r[j]? = some t := ej
          obtain ⟨o, k1, k2⟩ := sl1.sl.ok (j + 1) t ej'
          refine ⟨o, k1, ?_⟩
          cases t with
          | no => trivial
          | d x => exact k2
          | st =>
            obtain ⟨k3, m1, m2, ls, cs, m, t, m3, m4, m5, m6, m7, m8, rest⟩ := k2
            exact ⟨k3, m1, m2, ls, cs, m, t, m3, m4, m5, keep m6 g3.symm, keep m7 g4.symm, m8, rest⟩
          | ol zs =>
            obtain ⟨p, ws, k3, k4, rest⟩ := k2
            exact ⟨p, ws, k3, keep k4 (fun z => by rw [z, g1] at k4; cases k4), rest⟩
          | me _ _ _ _ => exact absurd ejr (noMe_get nm)
          | od ks zs =>
            obtain ⟨p, kvs, k3, k4, rest⟩ := k2
            exact ⟨p, kvs, k3, keep k4 (fun z => by rw [z, g1] at k4; cases k4), rest⟩
          | ot ks zs =>
            obtain ⟨p, kvs, k3, k4, rest⟩ := k2
            exact ⟨p, kvs, k3, keep k4 (fun z => by rw [z, g1] at k4; cases k4), rest⟩
          | fv F =>
            obtain ⟨f', c', k3, k4, k5, rest⟩ := k2
            exact ⟨f', c', k3, k4, keep k5 (fun z => by rw [z, g1] at k5; exact codeO_no (o := .ins C dx fs) (fun _ z => by cases z) (Option.some.inj k5)), rest⟩
      · cases j with
        | zero => cases ej
        | succ j =>
          cases k with
          | zero => cases ek
          | succ k => exact sl1.sl.ap (j + 1) (k + 1) p xs ys jk ej ek sj sk
      · cases j with
        | zero =>
          have z : p = y := by
            rw [e1] at sj
            exact (V.ref.inj (Option.some.inj (Option.some.inj sj))).symm
          rw [z]
          exact f0
        | succ j => exact sl1.fr (j + 1) t p ej eo sj
    | _ => exact pp.elim

/-! ### __init__ -/
abbrev DSI := List SV → Nat → (List Str → List D → Nat → Prop) → DX → Prop
def spI (K : PySem.W.Frag) (T : Tb) (C : Addr) (DS : DSI) : Sp := fun vs H Q E => ∃ S Hb H1 n x dx ss us P XP, vs = .ref x :: us ∧ H = upd (upd H1 dx (.own x)) x (.ins C dx []) ∧ H1 x = none ∧ H1 dx = none ∧ dx ≠ x ∧ World T S Hb H1 ∧ Args K S Hb H1 n ss us ∧ (noOl ss = true ∧ DS ss n P XP) ∧
  (∀ ns ds dy fs n' Hb' H', Stp K T S Hb H1 n Hb' H' n' → H' x = some (.ins C dy fs) → Hb' x = none → fs.map (·.1) = ns → DnA K Hb' (fs.map (·.2)) ds → P ns ds n' → Q .non H') ∧ XOk K T S Hb H1 n XP E
theorem noL_me {ss : List SV} {x C : Addr} {ns : List Str} {ds : List D} (h : noOl ss = true) : noL (.me x C ns ds :: ss) = true := by
  have z : noL ss = true := noL_of h
  exact z
variable {P : Program} {w : PySem.World} {mg : Str → Option Value} {base : Heap}
theorem okI {x qual : Str} {st : Stmt} {f C : Addr} {fd : FuncData} {N ps : List Str} {k : Nat} {DS : DSI} (F : Fun K x qual st f fd) (Sc : FnScope N ps (defScope st)) (len : ∀ ss n P XP, DS ss n P XP → ss.length + 1 = ps.length)
    (hb : ∀ (S : SA) (cdv : Value) (A : Around) (outer : List Env) (s : Shared) (H : Hp) (E : XK), Room k (A.deeper (envOfC qual (defScope st) s.heap.objs.size f cdv)) →
      ∃ ts G, PSs (cxOf (L2.CX P w) P w K mg base N qual (defScope st) f cdv A outer s H E) (defBody st) ts ∧ RdS K T S E ts G ∧ ∀ y ss n P XP, DS ss n P XP → G { nx := fun ρ n => meD ρ fun y' C' ns ds _ => y' = y ∧ C' = C ∧ P ns ds n, rt := fun _ _ => False } (startS N (.me y C [] [] :: ss)) n XP) :
    FnOk P w K mg base (L2.CX P w) (k + 1) f fd ps (spI K T C DS) := by
  refine F.okX Sc (fun vs H Q E h => ?_) (fun cdv A outer s H vs Q E hr h => ?_)
  · obtain ⟨S, Hb, H1, n, y, dx, ss, us, P, XP, rfl, _, _, _, _, _, ha, ⟨_, hd⟩, _⟩ := h
    rw [List.length_cons, ← ha.len]
    exact len ss n P XP hd
  · obtain ⟨S, Hb, H1, n, y, dx, ss, us, P, XP, rfl, rfl, hy, hdx, ne, wd, ha, ⟨ho, hd⟩, q, x⟩ := h
    obtain ⟨ts, G, h1, h2, h3⟩ := hb S cdv A outer s _ E hr
    have s1 : Stp K T S Hb H1 n Hb (upd H1 dx (.own y)) n := .newO wd hdx
    have s2 : Stp K T S Hb H1 n Hb (upd (upd H1 dx (.own y)) y (.ins C dx [])) n := s1.trans (.newO s1.wd (by rw [upd_ne ne.symm]; exact hy))
    obtain ⟨n1, n2, n3⟩ := wd.nS (fresh_none hy)
    have hby : Hb y = none := free_of wd.ex hy
    refine ⟨ts, h1, h2 _ _ Hb H1 n Hb _ n _ XP _ s2 ⟨.start (ss := .me y C [] [] :: ss) (.cons (s := .me y C [] []) ⟨rfl, dx, [], upd_same, hby, n1, n2, n3, rfl, .nil⟩ (ha.step s2)) (noL_me ho), fun i t p ei eo sp => ?_⟩ (h3 y ss n P XP hd) ⟨fun ρ σ n' Hb' H' _ st sl p => ?_, fun _ _ _ _ _ _ _ p => p.elim, fun _ _ _ _ _ _ _ _ p => p.elim, fun _ _ _ _ _ _ _ _ p => p.elim⟩ x⟩
    · rcases start_cases ei with ei | rfl
      · cases i with
        | zero =>
          have z : p = y := by
            have z : (some (some (V.ref y)) : Option (Option V)) = some (some (.ref p)) := sp
            exact (V.ref.inj (Option.some.inj (Option.some.inj z))).symm
          rw [z]
          exact fresh_none hy
        | succ i =>
          rw [noOl_get ho ei] at eo
          cases eo
      · cases eo
    · cases ρ with
      | nil => exact p.elim
      | cons s0 r =>
        cases s0 with
        | me y' C' ns ds =>
          obtain ⟨rfl, rfl, p⟩ := p
          obtain ⟨o, e1, rfl, dy, fs, g1, g2, g3, g4, g5, g6, g7⟩ := sl.sl.ok 0 _ rfl
          exact q ns ds dy fs n' Hb' H' st g1 g2 g6 g7 p
        | _ => exact p.elim

/-! ### the caller -/
def xMake (K : PySem.W.Frag) (C : Addr) (DS : DSI) (G : DTA) : DT := fun ρ n P XP => G ρ n (fun ss n1 => InC K C ∧ noOl ss = true ∧ DS ss n1 (fun ns ds n2 => P (.ins C ns ds) n2) XP) XP
theorem made {C : Addr} {P : DQ} {Q : VK} {x dy : Addr} {fs : List (Str × V)} {ns : List Str} {ds : List D} (s : Stp K T S Hb H n Hb1 H1 n1) (ic : InC K C) (q : VOk K T S Hb H n P Q) (hx : H x = none) (e1 : H1 x = some (.ins C dy fs)) (e2 : Hb1 x = none) (e3 : fs.map (·.1) = ns) (e4 : DnA K Hb1 (fs.map (·.2)) ds) (w : World T S Hb H) (pp : P (.ins C ns ds) n1) : Q (.ref x) H1 := by
  obtain ⟨m1, m2, m3⟩ := w.nS (fresh_none hx)
  have z := s.freeze (o := .ins C dy fs) (fresh_none hx) e2 (by rw [e1]; exact fun z => by cases z) (fun ps z => by rw [e1] at z; cases z) (fun c u z => by rw [e1] at z; exact codeO_no (o := .ins C dy fs) (fun _ z => by cases z) (Option.some.inj z)) m1 m2 m3
  have e : upd H1 x (.ins C dy fs) = H1 := by
    funext b
    by_cases hb : b = x
    · rw [hb, upd_same, e1]
    · rw [upd_ne hb]
  rw [e] at z
  exact q _ _ n1 _ _ z (.ins ic upd_same e3 (e4.up (Ex.new e2))) pp
theorem rd_make {C : Addr} {DS : DSI} (h : RdA K T S E ta G) : DL.Rd K T S E (tMake C (spI K T C DS) [] E ta) (xMake K C DS G) := fun σ ρ Hb H n P XP Q w sl hf q x =>
  h σ ρ Hb H n _ XP _ w sl hf (fun ss vs n1 Hb1 H1 s ha p y dx hy hdx ne => by
    obtain ⟨ic, ho, hd⟩ := p
    exact ⟨S, Hb1, H1, n1, y, dx, ss, vs, _, XP, by rw [List.append_nil], rfl, hy, hdx, ne, s.wd, ha, ⟨ho, hd⟩, fun ns ds dy fs n' Hb' H' s2 e1 e2 e3 e4 pp => ⟨rfl, made s2 ic (q.step s) hy e1 e2 e3 e4 s.wd pp⟩, x.step s⟩) x
end
end DL

/-! a def that makes lambdas; work() caught -/
namespace DL
open L2 PySem PySem.Spec PyProof.Rows
open Evl (Ex ex_l ex_t sz_of)
/-- a def with its code object at c -/
structure FunC (K : PySem.W.Frag) (x qual : Str) (st : Stmt) (f : Addr) (fd : FuncData) (c : Addr) : Prop where
  ex : ∃ (oc : Value) (od : Option Addr) (kV doc pm : Value) (an : Option Addr) (ct : Value) (osl : Array (Option Value)),
    fd = PySem.W.fnOf x qual (defArgs st) (defBody st) (defScope st) .none kV doc pm an (.ref c) ct ∧ K.lookup f = some ⟨oc, od, .func fd, osl⟩ ∧ PySem.W.codeIn K (.ref c) qual = true
section
variable {P : Program} {w : PySem.World} {K : PySem.W.Frag} {T : Tb} {mg : Str → Option Value} {base : Heap}
/-- what the frame that makes a lambda must know: its own code object and the table there -/
structure MakesAt (base : Heap) (mg : Str → Option Value) (T : Tb) (q : Str) (c : Addr) : Prop where
  ex : ∃ P, LamX.TabB base mg c P ∧ (P, q) ∈ T ∧ ∀ p ∈ T, p.1 = P → p.2 = q
end
section
variable {X : Cx} {T : Tb}
/-- _law_caught(lambda: body) -/
theorem lam_call {st : Stmt} {CS c : Addr} {k : Nat} {params : Arguments} {body : Expr} {scope : Scope} {t : XK → TE} {p lpos pos : Pos} (D : DefAt X.K X.mg "_law_caught" st ["work"]) (Sg : FnScope ["work", "caught", "error"] ["work"] (defScope st))
    (hG : ∀ g cdg, LamX.GivesTo X ["work", "caught", "error"] "_law_caught" (defScope st) g cdg (defBody st) "work" (X.env.qual ++ "<lambda>") (TTc X.K CS))
    (M : MakesAt X.base X.mg T (X.env.qual ++ "<lambda>") c) (hcode : X.env.code = .ref c) (hr : Room (k + 2) X.A) (L : LamX.LamS X.env.scope scope) (hg : Gl X "_law_caught") (hdef : defaultsOf params X.env = ([], []))
    (hbind : ∀ (q : Str) (cl : List (Str × Addr)) (pm cv ctv : Value), bindArgs (PySem.W.kla_fn "<lambda>" q params body scope cl pm cv ctv) ⟨[], []⟩ = pure [])
    (hbody : ∀ (A : Around) (outer : List Env) (s : Shared) (H : Hp) (E : XK) (f c' : Addr), Room k (A.deeper (LamX.lamEnv X scope s.heap.objs.size f c')) → PE (LamX.lamCx X A outer s H E scope f c') body (t E)) :
    PE X (.Call (.Name "_law_caught" p) [.Lambda params body scope lpos] [] pos) (LamX.tLam T (TTc X.K CS) t) := by
  obtain ⟨g, fd, F, hm, hk, hb⟩ := D
  obtain ⟨oc, od, kV, doc, pm, an, cdv, ct, osl, rfl, lk, hcd⟩ := F.ex
  obtain ⟨P, TB, hmT, hu⟩ := M.ex
  exact LamX.pe_lamcall (Ng := ["work", "caught", "error"]) hg hm hk lk hcd hb Sg rfl (Sg.par "work" (by simp) |>.elim (fun q => .inl q) fun q => .inr (.inl q)) (hG g cdv) TB hcode hmT hu hr L hdef hbind hbody
end
end DL

/-! how defs and classes stand, in short; keywords of a class -/
namespace DL
open L2 PySem PySem.Spec PyProof.Rows
open Evl (Ex ex_l ex_t sz_of)
def gsw {α : Type} : List α → List α → List α
  | [s], [a, b] => [s, b, a]
  | us, ws => us ++ ws
theorem gsw_rel {vs : List V} {us : List Value} {zs : List V} {ws : List Value} (h : Vals vs us) (g : Vals zs ws) : Vals (gsw vs zs) (gsw us ws) := by
  have d : Vals (vs ++ zs) (us ++ ws) := h.append g
  cases h with
  | nil => simpa [gsw] using d
  | cons a ra =>
    cases ra with
    | cons b rb => simpa [gsw] using d
    | nil =>
      cases g with
      | nil => simpa [gsw] using d
      | cons b rb =>
        cases rb with
        | nil => simpa [gsw] using d
        | cons c rc =>
          cases rc with
          | nil => exact .cons a (.cons c (.cons b .nil))
          | cons e re => simpa [gsw] using d
/-- a class whose __init__ takes two values -/
def Init2 (K : PySem.W.Frag) (qual : Str) (C : Addr) (st : Stmt) (a b : Str) : Prop :=
  ∃ f fd, Fun K "__init__" qual st f fd ∧ Mk K C f ∧ Binds K fd ["self", a, b] [] ∧ KBn K fd ["self", a, b] 1 [b, a] gsw gsw
def HasI (P : Program) (w : PySem.World) (K : PySem.W.Frag) (mg : Str → Option Value) (base : Heap) (k : Nat) (C : Addr) (a b : Str) (sp : Sp) : Prop :=
  ∃ f fd, FnOk P w K mg base (L2.CX P w) k f fd ["self", a, b] sp ∧ Mk K C f ∧ Binds K fd ["self", a, b] [] ∧ KBn K fd ["self", a, b] 1 [b, a] gsw gsw
def HasG (P : Program) (w : PySem.World) (K : PySem.W.Frag) (mg : Str → Option Value) (base : Heap) (CX : CXT) (k : Nat) (name : Str) (ps : List Str) (sp : Sp) : Prop :=
  ∃ f fd, FnG P w K mg base CX k f fd ps sp ∧ mg name = some (.ref f) ∧ PySem.W.keepIn K (.ref f) = true ∧ Binds K fd ps []
section
variable {K : PySem.W.Frag} {T : Tb} {S : SA} {E : XK} {ta : TA} {G : DTA}
end
end DL

/-! the source of draws is made; a law's own def -/
namespace DL
open L2 PySem PySem.Spec PyProof.Rows
open Evl (Ex ex_l ex_t sz_of)
def stBegun (l c : Addr) : List (Key × V) := [(kLarge, .ref l), (kCells, .ref c), (kLeft, .int 0), (kTurn, .int 0)]
/-- _law_begun(script) -/
def spBegun (K : PySem.W.Frag) : Sp := fun vs H Q _ => ∃ (a : Addr) (ns : List Int), vs = [.ref a] ∧ SqL K H a (ns.map V.int) ∧ ns.length ≤ 63 ∧
  ∀ (c l d : Addr) (cs ls : List Int) (H' : Hp), H c = none → H l = none → H d = none → c ≠ l → c ≠ d → l ≠ d → H' c = some (.lst (cs.map V.int)) → H' l = some (.lst (ls.map V.int)) → H' d = some (.dK (stBegun l c)) →
    (∀ b, b ≠ c → b ≠ l → b ≠ d → H' b = H b) → (∀ x ∈ cs, 0 ≤ x) → (∀ x ∈ ls, 0 ≤ x) → cs.length ≤ 63 → ls.length ≤ 63 → Q (.ref d) H'
section
variable {K : PySem.W.Frag} {T : Tb} {H H' : Hp} {a c l d : Addr} {ns cs ls : List Int}
theorem world_from {Hb : Hp} (tabs : LamX.Tabs T H) (hc : H c = none) (hl : H l = none) (hd : H d = none) (cl : c ≠ l) (cd : c ≠ d) (ld : l ≠ d) (e1 : H' c = some (.lst (cs.map V.int))) (e2 : H' l = some (.lst (ls.map V.int))) (e3 : H' d = some (.dK (stBegun l c)))
    (keep : ∀ b, b ≠ c → b ≠ l → b ≠ d → H' b = H b) (p1 : ∀ x ∈ cs, 0 ≤ x) (p2 : ∀ x ∈ ls, 0 ≤ x) (l1 : cs.length ≤ 63) (l2 : ls.length ≤ 63) (eb : Ex Hb H) (nt : ∀ b ps, Hb b ≠ some (.tbl ps)) :
    World T ⟨d, l, c, cs⟩ (upd Hb c (.lst (cs.map V.int))) H' ∧ StOk K ⟨d, l, c, cs⟩ (upd Hb c (.lst (cs.map V.int))) H' 0 := by
  have kp : ∀ {b : Addr} {o : HO}, H b = some o → H' b = some o := fun {b o} e => by
    rw [keep b (ne_of_none e hc) (ne_of_none e hl) (ne_of_none e hd)]
    exact e
  have fb : ∀ {b : Addr}, H b = none → Hb b = none := fun h => Evl.fresh_back eb h
  refine ⟨⟨fun b o e => ?_, fun p hp => (tabs p hp).ext fun b o e => kp e, fun p hp => ?_, ⟨_, e3, (fun _ z => by cases z)⟩, ⟨_, e2, (fun _ z => by cases z)⟩, ⟨_, e1, (fun _ z => by cases z)⟩, fun b ps z => ?_⟩, ?_⟩
  · by_cases hb : b = c
    · rw [hb, upd_same] at e
      rw [hb, e1]
      exact e
    · rw [upd_ne hb] at e
      exact kp (eb b o e)
  · obtain ⟨ps, e, _⟩ := tabs p hp
    rw [upd_ne (ne_of_none e hc)]
    cases h : Hb p.1 with
    | none => rfl
    | some o =>
      have z := eb _ _ h
      rw [e] at z
      cases z
      exact (nt _ _ h).elim
  · by_cases hb : b = c
    · rw [hb, upd_same] at z
      cases z
    · rw [upd_ne hb] at z
      exact nt b ps z
  · refine ⟨by rw [upd_ne cd.symm]; exact fb hd, by rw [upd_ne cl.symm]; exact fb hl, ls, cs, 0, 0, cl, cd, ld.symm, e3, e2, upd_same, p2, p1, Int.le_refl _, Nat.le_refl _, l2, l1, rfl⟩
theorem begun_world (tabs : LamX.Tabs T H) (hS : SqL K H a (ns.map V.int)) (hc : H c = none) (hl : H l = none) (hd : H d = none) (cl : c ≠ l) (cd : c ≠ d) (ld : l ≠ d) (e1 : H' c = some (.lst (cs.map V.int))) (e2 : H' l = some (.lst (ls.map V.int))) (e3 : H' d = some (.dK (stBegun l c)))
    (keep : ∀ b, b ≠ c → b ≠ l → b ≠ d → H' b = H b) (p1 : ∀ x ∈ cs, 0 ≤ x) (p2 : ∀ x ∈ ls, 0 ≤ x) (l1 : cs.length ≤ 63) (l2 : ls.length ≤ 63) :
    ∃ Hb, World T ⟨d, l, c, cs⟩ Hb H' ∧ StOk K ⟨d, l, c, cs⟩ Hb H' 0 ∧ SqL K Hb a (ns.map V.int) := by
  rcases hS with hR | hK
  · have hH : ∃ o, H a = some o ∧ (∀ ps, o ≠ .tbl ps) ∧ ∀ Hb : Hp, Hb a = some o → L2.Rd Hb a (.lst (ns.map V.int)) := by
      rcases hR with h | ⟨o, h⟩
      · exact ⟨_, h, (fun _ z => by cases z), fun Hb e => .inl e⟩
      · exact ⟨_, h, (fun _ z => by cases z), fun Hb e => .inr ⟨o, e⟩⟩
    obtain ⟨o, h, ho, rd⟩ := hH
    have eb : Ex (upd (fun _ => none) a o) H := fun b u e => by
      by_cases hb : b = a
      · rw [hb, upd_same] at e
        rw [hb, h]
        exact e
      · rw [upd_ne hb] at e
        cases e
    obtain ⟨g1, g2⟩ := world_from (K := K) tabs hc hl hd cl cd ld e1 e2 e3 keep p1 p2 l1 l2 eb (nt_upd (fun _ _ z => by cases z) ho)
    exact ⟨_, g1, g2, .inl (rd _ (by rw [upd_ne (ne_of_none h hc)]; exact upd_same))⟩
  · obtain ⟨g1, g2⟩ := world_from (Hb := fun _ => none) (K := K) tabs hc hl hd cl cd ld e1 e2 e3 keep p1 p2 l1 l2 (fun _ _ e => by cases e) (fun _ _ z => by cases z)
    exact ⟨_, g1, g2, .inr hK⟩
/-- the source of draws is stored -/
theorem Slots.setSt {S : SA} {Hb : Hp} {n : Nat} {ρ : List SV} {σ : L2.St} {i : Nat} (sl : Slots K S Hb H n ρ σ) (h : StOk K S Hb H n) : Slots K S Hb H n (ρ.set i .st) (σ.set i (some (.ref S.a))) where
  len := by rw [List.length_set, List.length_set]; exact sl.len
  ok := fun j s e => by
    by_cases hj : i = j
    · subst hj
      have hl : i < ρ.length := by
        have := (List.getElem?_eq_some_iff.mp e).1
        rwa [List.length_set] at this
      rw [List.getElem?_set_self hl] at e
      cases e
      exact ⟨_, List.getElem?_set_self (by rw [← sl.len]; exact hl), rfl, h⟩
    · rw [List.getElem?_set_ne hj] at e
      obtain ⟨o, e1, e2⟩ := sl.ok j s e
      exact ⟨o, by rw [List.getElem?_set_ne hj]; exact e1, e2⟩
  ap := fun j k q ys zs hjk ej ek sj sk => by
    have f : ∀ {m : Nat} {u : List D}, (ρ.set i .st)[m]? = some (.ol u) → i ≠ m ∧ ρ[m]? = some (.ol u) := fun {m u} e => by
      by_cases hm : i = m
      · subst hm
        have hl : i < ρ.length := by
          have := (List.getElem?_eq_some_iff.mp e).1
          rwa [List.length_set] at this
        rw [List.getElem?_set_self hl] at e
        cases e
      · rw [List.getElem?_set_ne hm] at e
        exact ⟨hm, e⟩
    obtain ⟨h1, e1⟩ := f ej
    obtain ⟨h2, e2⟩ := f ek
    rw [List.getElem?_set_ne h1] at sj
    rw [List.getElem?_set_ne h2] at sk
    exact sl.ap j k q ys zs hjk e1 e2 sj sk
/-- a law's promise: True at every script -/
def spLaw (K : PySem.W.Frag) (T : Tb) : Sp := fun vs H Q _ => ∃ (a : Addr) (ns : List Int), vs = [.ref a] ∧ SqL K H a (ns.map V.int) ∧ ns.length ≤ 63 ∧ LamX.Tabs T H ∧ ∀ H', Q (.bl true) H'
/-- state = _law_begun(script), then the rest on data -/
theorem law_body {N : List Str} {E9 : XK} {ts : TS} {Q : VK} (hN : 2 ≤ N.length) (hS : SqL K H a (ns.map V.int)) (hl : ns.length ≤ 63) (tabs : LamX.Tabs T H) (q : ∀ H', Q (.bl true) H')
    (rest : ∀ S : SA, ∃ G, RdS K T S E0 ts G ∧ G { nx := fun _ _ => False, rt := fun d _ => d = .bl true } ((startS N [.d (.lst (ns.map D.int))]).set 1 .st) 0 xF) :
    tSeq (tAsg (tCall (spBegun K) [] E9 (tCons (tVar 0) tNil)) (gName 1)) ts { nx := fun _ H' => Q .non H', rt := Q } (L2.start N [.ref a]) H := by
  refine ⟨.ref a, rfl, a, ns, rfl, hS, hl, fun c l d cs ls H' hc hl' hd cl cd ld e1 e2 e3 keep p1 p2 l1 l2 => ?_⟩
  obtain ⟨Hb, w, st, hS'⟩ := begun_world (T := T) tabs hS hc hl' hd cl cd ld e1 e2 e3 keep p1 p2 l1 l2
  obtain ⟨G, hG, g⟩ := rest ⟨d, l, c, cs⟩
  have sl0 : Slots K ⟨d, l, c, cs⟩ Hb H' 0 (startS N [.d (.lst (ns.map D.int))]) (L2.start N [.ref a]) := .start (.cons ⟨_, rfl, .lst hS' (DnA.ints ns)⟩ .nil) rfl
  refine hG _ _ Hb H' 0 Hb H' 0 _ xF _ (.refl w) ⟨sl0.setSt (i := 1) st, fun i s p ei eo _ => ?_⟩ g ⟨fun _ _ _ _ _ _ _ _ p => p.elim, fun dd v n' Hb' H2 _ hv e => ?_, fun _ _ _ _ _ _ _ _ p => p.elim, fun _ _ _ _ _ _ _ _ p => p.elim⟩ .none
  · by_cases hi : 1 = i
    · subst hi
      have h1 : 1 < (startS N [.d (.lst (ns.map D.int))]).length := by
        have := (List.getElem?_eq_some_iff.mp ei).1
        rwa [List.length_set] at this
      rw [List.getElem?_set_self h1] at ei
      cases ei
      cases eo
    · rw [List.getElem?_set_ne hi] at ei
      rcases start_cases ei with h | rfl
      · rw [noOl_get (ss := [.d (.lst (ns.map D.int))]) rfl h] at eo
        cases eo
      · cases eo
  · subst e
    cases hv
    exact q H2
end
end DL

/-! list(zip(a, b)) of two tuples -/
namespace RZ
open PySem PySem.Calls PyProof.Rows PyProof.V PySem.Spec PySem.W
section
variable {prog : Program} {w : World} {A : Around} {E : Value → Shared → Prop} {s : Shared}
/-- the zip amid its run, its tuples kept by others -/
structure ZSt (h : Heap) (z TI TO i1 i2 a b : Addr) (k : Nat) : Prop where
  ti : IsPair h TI (.ref i1) (.ref i2)
  one : h.IsTupleIter i1 a k
  two : h.IsTupleIter i2 b k
  fst : (IsZip h z TI TO .none ∧ ∃ x y, IsPair h TO x y) ∨ ∃ T f o, IsZipHeld h z TI TO T f ∧ h.get? T = some o ∧ T ≠ z ∧ T ≠ i1 ∧ T ≠ i2
theorem ZSt.at {h h' : Heap} {z TI TO i1 i2 a b : Addr} {k : Nat} (x : ZSt h z TI TO i1 i2 a b k) {S : Addr} (e : ∀ c o, c ≠ S → h.get? c = some o → h'.get? c = some o) (es : ∃ o, h'.get? S = some o) (n1 : S ≠ z) (n2 : S ≠ TI) (n3 : S ≠ TO) (n4 : S ≠ i1) (n5 : S ≠ i2) : ZSt h' z TI TO i1 i2 a b k := by
  obtain ⟨h1, h2, h3, h4⟩ := x
  refine ⟨e _ _ n2.symm h1, h2.at fun o q => e _ o n4.symm q, h3.at fun o q => e _ o n5.symm q, ?_⟩
  rcases h4 with ⟨h4, x, y, h5⟩ | ⟨T, f, o, h4, h5, h6⟩
  · exact .inl ⟨e _ _ n1.symm h4, x, y, e _ _ n3.symm h5⟩
  · by_cases hT : T = S
    · obtain ⟨o', es⟩ := es
      exact .inr ⟨T, f, o', e _ _ n1.symm h4, by rw [hT]; exact es, h6⟩
    · exact .inr ⟨T, f, o, e _ _ n1.symm h4, e _ _ hT h5, h6⟩
end
section
variable {prog : Program} {w : World} {A : Around} {s : Shared} {R : Result → Shared → Prop} {xs ys : Array Value} {z TI TO i1 i2 l1 l2 S : Addr} {N : Nat}
end
end RZ
namespace RZ
open PySem PySem.Spec PyProof.Rows L2
theorem Un.more {fs ex : List Addr} {H H1 : Hp} {h h' : Heap} {a : Addr} {o : HO} (u : Un fs ex H H1 h h') (hp : h.objs.size ≤ a) (hn : H1 a = none) : Un fs ex H (upd H1 a o) h h' where
  keep := u.keep
  slot := u.slot
  free := fun b ob q n hx => by rw [upd_ne (Nat.ne_of_lt (Nat.lt_of_lt_of_le (Heap.lt_size q) hp))]; exact u.free b ob q n hx
  there := u.there
  tups := fun b xs q => by
    have z := u.tups b xs q
    rw [upd_ne (ne_of_none z hn)]; exact z
  frzs := fun b ob v q => by
    have z := u.frzs b ob v q
    rw [upd_ne (ne_of_none z hn)]; exact z
  tbls := fun b ps q => by
    obtain ⟨m, z⟩ := u.tbls b ps q
    exact ⟨m, by rw [upd_ne (ne_of_none z hn)]; exact z⟩
end RZ
namespace DL
open L2 PySem PySem.Spec PyProof.Rows
open Evl (Ex ex_l ex_t sz_of)
section
variable {K : PySem.W.Frag} {T : Tb} {S : SA} {E : XK}
end
end DL

/-! the end over a head by facts -/
namespace DL
open L2 PySem PySem.Spec PyProof.Rows
theorem walkGE {l : PySem.W.OpenLaw} {n k : Nat} {q : Program} {loose : List Str} {XP : (Str → Option Value) → Heap → Prop} {YP : PySem.World → Heap → Prop} {d : DefRec} {CX : PySem.World → CXT} {x : Str}
    (hn : l.most = some n) (hn2 : n ≤ sizeLine) (hdf : d.params.defaults = []) (hr : Room k callerA)
    (F : ∀ (w : PySem.World) (mg : Str → Option Value) (fa : Addr) (h : Heap), YP w h → h.Ns mainGlobals mg → mg d.name = some (.ref fa) → ∃ K : PySem.W.Frag, K.In h ∧ LawG l w K (CX w) k n x mg fa h)
    (hX : ∀ (w : PySem.World) (H : Hp) (s : Shared) (e : Value) (s' : Shared), CX w [] H s (fun _ _ _ => False) e s' → False) :
    PySem.W.WalkO q loose XP YP l.row.toRowW d [] (fun f vs => PySem.call f vs) :=
  Att.attach_callB hn hdf fun w s₀ s₁ mg mb fa o pm cd doc a vs ns G Y ho hd hcd hmg hobj hints hlen hbits hg => by
    obtain ⟨K, KX, cs, fd, sp, ⟨h1, h2, h3⟩, hF, hb, hsp⟩ := F w mg fa _ Y G.T.g hmg
    exact end_call KX G.T.g G.T.b G.T.builtins G.T.nolimit hg h1 h3 h2 G.T.bmain hobj hints (Nat.le_trans hlen hn2) hr hF hb (fun H hH hS => hsp H a ns hlen hbits hH hS) fun H e s' => hX w H s₁ e s'

/-! ### facts as Bools -/
open He (ga ma fAd cT)
def eqB (a b : Option Bool) : Bool := match a, b with
  | some x, some y => x == y
  | _, _ => false
theorem eqB_ok {a : Option Bool} {b : Bool} (h : eqB a (some b) = true) : a = some b := by
  cases a with
  | none => cases h
  | some x =>
    have e : (x == b) = true := h
    rw [eq_of_beq e]
def tys6 : List String := ["int", "bool", "str", "tuple", "list", "dict"]
def tys7 : List String := ["NoneType", "bool", "int", "str", "list", "tuple", "dict"]
def noTyB (K : PySem.W.Frag) (C : Addr) : Bool := tys6.all fun t => eqB (PySem.W.kitOne K (.ref C) (.type t)) (some false)
theorem noTyB_ok {K : PySem.W.Frag} {C : Addr} (h : noTyB K C = true) : NoTy K C := fun t ht => eqB_ok (List.all_eq_true.mp h t ht)
def excCB (K : PySem.W.Frag) (D : Addr) : Bool :=
  He.eqO (PySem.W.findIn K (.ref D) "__getattribute__") (some (some (.builtin "BaseException.__getattribute__"))) && (He.eqO (PySem.W.findIn K (.ref D) "__getattr__") (some none) && (eqB (PySem.W.subIn K (.ref D) (.type "BaseException")) (some true) && (PySem.W.hasDictIn K D &&
  (He.eqO (PySem.W.findIn K (.ref D) "__class__") (some (some (.builtin "object.__class__"))) && (He.eqO (PySem.W.specialIn K (.builtin "object.__class__") "__get__") (some (some (.builtin "getset_descriptor.__get__"))) && (eqB (PySem.W.takesIn K (.builtin "object.__class__")) (some true) && eqB (PySem.W.mroIn K D (.type "object")) (some true)))))))
theorem b2 {a b : Bool} (h : (a && b) = true) : a = true ∧ b = true := Bool.and_eq_true_iff.mp h
theorem excCB_ok {K : PySem.W.Frag} {D : Addr} (h : excCB K D = true) : ExcC K D := by
  obtain ⟨h1, h⟩ := b2 h
  obtain ⟨h2, h⟩ := b2 h
  obtain ⟨h3, h⟩ := b2 h
  obtain ⟨h4, h⟩ := b2 h
  obtain ⟨h5, h⟩ := b2 h
  obtain ⟨h6, h⟩ := b2 h
  obtain ⟨h7, h8⟩ := b2 h
  exact ⟨He.eqO_ok h1, He.eqO_ok h2, eqB_ok h3, h4, He.eqO_ok h5, He.eqO_ok h6, eqB_ok h7, eqB_ok h8⟩
def errCB (K : PySem.W.Frag) (CS C : Addr) : Bool := excCB K C && (noTyB K C && eqB (PySem.W.exmOne K (.ref C) (.ref CS)) (some true))
theorem errCB_ok {K : PySem.W.Frag} {CS C : Addr} (h : errCB K CS C = true) : ErrC K CS C := by
  obtain ⟨h1, h⟩ := b2 h
  obtain ⟨h2, h3⟩ := b2 h
  exact ⟨excCB_ok h1, noTyB_ok h2, eqB_ok h3⟩
def eqV (a : Option Value) (b : Value) : Bool := He.eqO (some a) (some (some b))
theorem eqV_ok {a : Option Value} {b : Value} (h : eqV a b = true) : a = some b := Option.some.inj (He.eqO_ok h)
def veB : List Value := [.type "ValueError", .type "Exception", .type "BaseException", .type "object"]
structure ErrF (K : PySem.W.Frag) (CS C : Addr) : Prop where
  x : PySem.W.excIn K C veB "ValueError.__new__" = true
  e : PySem.W.keepIn K (.ref C) = true
  b : PySem.W.subIn K (.ref C) (.type "BaseException") = some true
  t : PySem.W.typeIn K (.ref C) = some (.type "type")
  r : ErrC K CS C
  i : PySem.W.kitOne K (.ref C) (.ref C) = some true
  v : PySem.W.kitOne K (.ref C) (.type "ValueError") = some true
def errFB (K : PySem.W.Frag) (CS C : Addr) : Bool := PySem.W.excIn K C veB "ValueError.__new__" && (PySem.W.keepIn K (.ref C) && (eqB (PySem.W.subIn K (.ref C) (.type "BaseException")) (some true) && (eqV (PySem.W.typeIn K (.ref C)) (.type "type") && (errCB K CS C && (eqB (PySem.W.kitOne K (.ref C) (.ref C)) (some true) && eqB (PySem.W.kitOne K (.ref C) (.type "ValueError")) (some true))))))
theorem errFB_ok {K : PySem.W.Frag} {CS C : Addr} (h : errFB K CS C = true) : ErrF K CS C := by
  obtain ⟨h1, h⟩ := b2 h
  obtain ⟨h2, h⟩ := b2 h
  obtain ⟨h3, h⟩ := b2 h
  obtain ⟨h4, h⟩ := b2 h
  obtain ⟨h5, h⟩ := b2 h
  obtain ⟨h6, h7⟩ := b2 h
  exact ⟨h1, h2, eqB_ok h3, eqV_ok h4, errCB_ok h5, eqB_ok h6, eqB_ok h7⟩
def clsB (K : PySem.W.Frag) (C : Addr) : Bool := PySem.W.plainGet K C Str.empty && (PySem.W.hasDictIn K C && (PySem.W.plainOver K C && He.eqO (PySem.W.findIn K (.ref C) "__setattr__") (some (some (.builtin "object.__setattr__")))))
theorem clsB_ok {K : PySem.W.Frag} {C : Addr} (h : clsB K C = true) : Cls K C := by
  obtain ⟨h1, h⟩ := b2 h
  obtain ⟨h2, h⟩ := b2 h
  obtain ⟨h3, h4⟩ := b2 h
  exact ⟨h1, h2, h3, He.eqO_ok h4⟩
def inCB (K : PySem.W.Frag) (C : Addr) : Bool := clsB K C && (He.eqO (PySem.W.findIn K (.ref C) "__class__") (some (some (.builtin "object.__class__"))) && (He.eqO (PySem.W.specialIn K (.builtin "object.__class__") "__get__") (some (some (.builtin "getset_descriptor.__get__"))) &&
  (eqB (PySem.W.takesIn K (.builtin "object.__class__")) (some true) && (eqB (PySem.W.mroIn K C (.type "object")) (some true) && noTyB K C))))
theorem inCB_ok {K : PySem.W.Frag} {C : Addr} (h : inCB K C = true) : InC K C := by
  obtain ⟨h1, h⟩ := b2 h
  obtain ⟨h2, h⟩ := b2 h
  obtain ⟨h3, h⟩ := b2 h
  obtain ⟨h4, h⟩ := b2 h
  obtain ⟨h5, h6⟩ := b2 h
  exact ⟨clsB_ok h1, He.eqO_ok h2, He.eqO_ok h3, eqB_ok h4, eqB_ok h5, noTyB_ok h6⟩
structure ClsF (K : PySem.W.Frag) (C : Addr) (as : List Str) : Prop where
  ic : InC K C
  no : ∀ t ∈ tys7, PySem.W.kitOne K (.type t) (.ref C) = some false
  i : PySem.W.kitOne K (.ref C) (.ref C) = some true
  na : ∀ a ∈ as, NoAttr K C a
def clsFB (K : PySem.W.Frag) (C : Addr) (as : List Str) : Bool := inCB K C && ((tys7.all fun t => eqB (PySem.W.kitOne K (.type t) (.ref C)) (some false)) && (eqB (PySem.W.kitOne K (.ref C) (.ref C)) (some true) && as.all fun a => He.eqO (PySem.W.findIn K (.ref C) a) (some none)))
theorem clsFB_ok {K : PySem.W.Frag} {C : Addr} {as : List Str} (h : clsFB K C as = true) : ClsF K C as := by
  obtain ⟨h1, h⟩ := b2 h
  obtain ⟨h2, h⟩ := b2 h
  obtain ⟨h3, h4⟩ := b2 h
  exact ⟨inCB_ok h1, fun t ht => eqB_ok (List.all_eq_true.mp h2 t ht), eqB_ok h3, fun a ha => He.eqO_ok (List.all_eq_true.mp h4 a ha)⟩
def mkB (K : PySem.W.Frag) (C : Addr) : Bool := PySem.W.makesIn K C && (He.eqO (PySem.W.findIn K (.ref C) "__init__") (some (some (.ref (ma K C "__init__")))) && (PySem.W.isFn K (.ref (ma K C "__init__")) && PySem.W.keepIn K (.ref C)))
theorem mkB_ok {K : PySem.W.Frag} {C : Addr} (h : mkB K C = true) : Mk K C (ma K C "__init__") := by
  obtain ⟨h1, h⟩ := b2 h
  obtain ⟨h2, h⟩ := b2 h
  obtain ⟨h3, h4⟩ := b2 h
  exact ⟨h1, He.eqO_ok h2, h3, h4⟩
section
variable {K : PySem.W.Frag} {mg : Str → Option Value}
/-- a def whose code object has a table -/
theorem funC_of {p : He.Defn} {x qual : Str} {st : Stmt} {fd : FuncData} {kws : List (Str × V)} (F : L2.FunD K x qual (defArgs st) (defBody st) (defScope st) [] kws (fAd K p) fd) : FunC K x qual st (fAd K p) fd (cT K p).1 := by
  obtain ⟨oc, od, dV, kV, doc, pm, an, cdv, ct, osl, e, l, c, hd, _⟩ := F.ex
  rcases hd with ⟨_, e2⟩ | ⟨e2, _⟩
  · subst e2
    obtain ⟨c', rfl⟩ := He.codeIn_ref c
    have z : He.codeOf K p = c' := He.codeOf_eq l (by rw [e])
    have z2 : (cT K p).1 = c' := z
    rw [z2]
    exact ⟨oc, od, kV, doc, pm, an, ct, osl, e, l, c⟩
  · exact absurd rfl e2
theorem init2_of {qual : Str} {C : Addr} {st : Stmt} {a b : Str} {fd : FuncData} (F : L2.Fun K "__init__" qual st (ma K C "__init__") fd) (m : Mk K C (ma K C "__init__")) (hb : Binds K fd ["self", a, b] [])
    (hk : ∀ (s : Shared) (us ws : List Value), us.length = 1 → ws.length = 2 → BindsTo s fd ⟨us, [b, a].zip ws⟩ ((["self", a, b] : List Str).zip (gsw us ws))) : Init2 K qual C st a b :=
  ⟨_, fd, F, m, hb, ⟨fun s us ws _ h1 h2 => hk s us ws h1 h2, fun h g => gsw_rel h g⟩⟩
end
end DL
namespace DL
open L2 PySem PySem.Spec PyProof.Rows
open He (ga ma fAd cT)
def TTof (K : PySem.W.Frag) (tfs : List (He.Defn × Str)) : Tb := tfs.map fun p => ((cT K p.1).2, p.2)
def apartB (K : PySem.W.Frag) (tfs : List (He.Defn × Str)) : Bool := tfs.all fun p => tfs.all fun q => !(decide ((cT K p.1).2 = (cT K q.1).2)) || decide (p.2 = q.2)
theorem makesAt_of {K : PySem.W.Frag} {base : Heap} {mg : Str → Option Value} {tfs : List (He.Defn × Str)} (hn : apartB K tfs = true) (TB : ∀ p ∈ tfs.map (fun p => cT K p.1), LamX.TabB base mg p.1 p.2) {p : He.Defn × Str} (hp : p ∈ tfs) : MakesAt base mg (TTof K tfs) p.2 (cT K p.1).1 :=
  ⟨⟨(cT K p.1).2, TB _ (List.mem_map.mpr ⟨p, hp, rfl⟩), List.mem_map.mpr ⟨p, hp, rfl⟩, fun q hq e => by
    obtain ⟨r, hr, rfl⟩ := List.mem_map.mp hq
    have h1 := List.all_eq_true.mp (List.all_eq_true.mp hn r hr) p hp
    have e' : (cT K r.1).2 = (cT K p.1).2 := e
    simpa [e'] using h1⟩⟩
theorem tabs_of {K : PySem.W.Frag} {H : Hp} {tfs : List (He.Defn × Str)} (hH : ∀ p ∈ tfs.map (fun p => cT K p.1), H p.2 = some (.tbl #[])) : LamX.Tabs (TTof K tfs) H := fun q hq => by
  obtain ⟨r, hr, rfl⟩ := List.mem_map.mp hq
  exact LamX.TabS.nil (hH _ (List.mem_map.mpr ⟨r, hr, rfl⟩))
end DL

/-! lists of one's own: frozen, looked at, popped; while; stores of new lists -/
namespace DL
open L2 PySem PySem.Spec PyProof.Rows
open Evl (Ex ex_l ex_t sz_of)
section
variable {K : PySem.W.Frag} {T : Tb} {S : SA} {E : XK} {Hb H Hb1 H1 Hb2 H2 : Hp} {n n1 n2 : Nat} {te : TE} {FE : DT}
theorem upd_id {H : Hp} {p : Addr} {o : HO} (h : H p = some o) : upd H p o = H := by
  funext b
  by_cases hb : b = p
  · rw [hb, upd_same, h]
  · rw [upd_ne hb]
/-- the list at p counts as frozen -/
theorem frz_world {p : Addr} {vs : List V} (w : World T S Hb H) (h1 : H p = some (.lst vs)) : World T S (upd Hb p (.lst vs)) H :=
  ⟨fun b o e => by
    by_cases hb : b = p
    · rw [hb, upd_same] at e
      rw [hb, h1]
      exact e
    · rw [upd_ne hb] at e
      exact w.ex b o e, w.tabs, fun q hq => by
    obtain ⟨ps, e, _⟩ := w.tabs q hq
    rw [upd_ne (fun z => by rw [z, h1] at e; cases e)]
    exact w.tb q hq, w.sa, w.sl, w.sc, nt_upd w.nt fun _ z => by cases z⟩
theorem frz_st {p : Addr} {vs : List V} (h3 : p ≠ S.a) (h4 : p ≠ S.l) (h5 : p ≠ S.c) (h : StOk K S Hb H n) : StOk K S (upd Hb p (.lst vs)) H n := by
  obtain ⟨g1, g2, ls, cs, m, t, g3, g4, g5, g6, g7, g8, rest⟩ := h
  exact ⟨by rw [upd_ne h3.symm]; exact g1, by rw [upd_ne h4.symm]; exact g2, ls, cs, m, t, g3, g4, g5, g6, g7, by rw [upd_ne h5.symm]; exact g8, rest⟩
theorem frz_slots {ρ : List SV} {σ : L2.St} {i : Nat} {p : Addr} {vs : List V} {xs : List D} (sl : Slots K S Hb H n ρ σ) (ei : ρ[i]? = some (.ol xs)) (es : σ[i]? = some (some (.ref p))) (h1 : H p = some (.lst vs)) (h2 : Hb p = none) (h3 : p ≠ S.a) (h4 : p ≠ S.l) (h5 : p ≠ S.c) (h6 : DnA K Hb vs xs) :
    Slots K S (upd Hb p (.lst vs)) H n (ρ.set i (.d (.lst xs))) σ where
  len := by rw [List.length_set]; exact sl.len
  ok := fun j s e => by
    have ex := Ex.new (o := .lst vs) h2
    by_cases hj : i = j
    · subst hj
      have hl : i < ρ.length := (List.getElem?_eq_some_iff.mp ei).1
      rw [List.getElem?_set_self hl] at e
      cases e
      exact ⟨_, es, .ref p, rfl, .lst (SqL.of upd_same) (h6.up ex)⟩
    · rw [List.getElem?_set_ne hj] at e
      obtain ⟨o, e1, e2⟩ := sl.ok j s e
      refine ⟨o, e1, ?_⟩
      cases s with
      | no => trivial
      | d x =>
        obtain ⟨v, e3, e4⟩ := e2
        exact ⟨v, e3, e4.up ex⟩
      | st => exact ⟨e2.1, frz_st h3 h4 h5 e2.2⟩
      | ol zs =>
        obtain ⟨q, ws, e3, e4, e5, e6, e7, e9, e8⟩ := e2
        have hqp : q ≠ p := fun z => by
          subst z
          exact sl.ap i j q xs zs hj ei e es (by rw [e1, e3])
        exact ⟨q, ws, e3, e4, by rw [upd_ne hqp]; exact e5, e6, e7, e9, e8.up ex⟩
      | me y C ms es2 =>
        obtain ⟨e3, dx, fs, e4, e5, e6, e7, e8, e9, e10⟩ := e2
        exact ⟨e3, dx, fs, e4, by rw [upd_ne (fun z => by rw [z, h1] at e4; cases e4)]; exact e5, e6, e7, e8, e9, e10.up ex⟩
      | od ks es2 =>
        obtain ⟨q, kvs, e3, e4, e5, e6, e7, e8, e9, e10⟩ := e2
        exact ⟨q, kvs, e3, e4, by rw [upd_ne (fun z => by rw [z, h1] at e4; cases e4)]; exact e5, e6, e7, e8, e9, e10.up ex⟩
      | ot ks es2 =>
        obtain ⟨q, kvs, e3, e4, e5, e6, e7, e8, e9, e10⟩ := e2
        exact ⟨q, kvs, e3, e4, by rw [upd_ne (fun z => by rw [z, h1] at e4; cases e4)]; exact e5, e6, e7, e8, e9, e10.up ex⟩
      | fv F =>
        obtain ⟨f, c, e3, e4, e5, e5b, rest⟩ := e2
        have hc : c ≠ p := fun z => by
          rw [z, h1] at e5
          exact codeO_no (o := .lst vs) (fun _ z => by cases z) (Option.some.inj e5)
        exact ⟨f, c, e3, ex _ _ e4, e5, (fun o z => by rw [upd_ne hc] at z; exact e5b o z), rest⟩
  ap := fun j k q ys zs hjk ej ek sj sk => by
    have f : ∀ {m : Nat} {u : List D}, (ρ.set i (.d (.lst xs)))[m]? = some (.ol u) → ρ[m]? = some (.ol u) := fun {m u} e => by
      by_cases hm : i = m
      · subst hm
        have hl : i < ρ.length := (List.getElem?_eq_some_iff.mp ei).1
        rw [List.getElem?_set_self hl] at e
        cases e
      · rw [List.getElem?_set_ne hm] at e
        exact e
    exact sl.ap j k q ys zs hjk (f ej) (f ek) sj sk
/-- a step from where the list at p counts as frozen, told from where it does not -/
theorem Stp.unview {p : Addr} {vs : List V} {Hb' H' : Hp} {n' : Nat} (h1 : H p = some (.lst vs)) (h2 : Hb p = none) (h3 : p ≠ S.a) (h4 : p ≠ S.l) (h5 : p ≠ S.c) (s : Stp K T S (upd Hb p (.lst vs)) H n Hb' H' n') :
    Stp K T S Hb H n (fun b => if b = p then none else Hb' b) H' n' where
  ex := fun b u e => by
    have hb : b ≠ p := fun z => by rw [z, h2] at e; cases e
    show (if b = p then none else Hb' b) = some u
    rw [if_neg hb]
    exact s.ex b u (by rw [upd_ne hb]; exact e)
  wd := by
    have g : ∀ {b : Addr} {o : HO}, (if b = p then none else Hb' b) = some o → Hb' b = some o := fun {b o} e => by
      by_cases hb : b = p
      · rw [if_pos hb] at e; cases e
      · rw [if_neg hb] at e; exact e
    refine ⟨fun b o e => s.wd.ex b o (g e), s.wd.tabs, fun q hq => ?_, s.wd.sa, s.wd.sl, s.wd.sc, fun b ps z => s.wd.nt b ps (g z)⟩
    show (if q.1 = p then none else Hb' q.1) = none
    by_cases hb : q.1 = p
    · rw [if_pos hb]
    · rw [if_neg hb]; exact s.wd.tb q hq
  st := fun h0 => by
    obtain ⟨g1, g2, ls, cs, m, t, g3, g4, g5, g6, g7, g8, rest⟩ := s.st (frz_st h3 h4 h5 h0)
    refine ⟨?_, ?_, ls, cs, m, t, g3, g4, g5, g6, g7, ?_, rest⟩
    · show (if S.a = p then none else Hb' S.a) = none
      rw [if_neg h3.symm]; exact g1
    · show (if S.l = p then none else Hb' S.l) = none
      rw [if_neg h4.symm]; exact g2
    · show (if S.c = p then none else Hb' S.c) = _
      rw [if_neg h5.symm]; exact g8
  own0 := fun q o e1 e2 e3 e4 e5 => by
    by_cases hq : q = p
    · subst hq
      rw [h1] at e1
      cases e1
      exact ⟨s.wd.ex _ _ (s.ex _ _ upd_same), .inl (if_pos rfl)⟩
    · obtain ⟨g1, g2⟩ := s.own0 q o e1 (by rw [upd_ne hq]; exact e2) e3 e4 e5
      rcases g2 with g2 | ⟨g2, c⟩
      · exact ⟨g1, .inl (by show (if q = p then none else Hb' q) = none; rw [if_neg hq]; exact g2)⟩
      · exact ⟨g1, .inr ⟨by show (if q = p then none else Hb' q) = some o; rw [if_neg hq]; exact g2, c⟩⟩
  dm := s.dm
theorem Dn.flat {v : V} {d : D} (h : Dn K Hb v d) (f : flatD d = true) : Dn K Hb1 v d := by
  cases h with
  | non => exact .non
  | bl b => exact .bl b
  | int i => exact .int i
  | str x => exact .str x
  | _ => cases f
def xtView (i : Nat) (F : DTT) : DTT := fun ρ n P _ => slotO ρ i fun xs => F (ρ.set i (.d (.lst xs))) n P xF
theorem rdt_view {i : Nat} {tt : TT} {F : DTT} (h1 : RdT K T S E tt F) : RdT K T S E tt (xtView i F) := fun σ ρ Hb H n P XP Q w sl h q x => by
  obtain ⟨xs, p, vs, e, es, e3, e4, e5, e6, e8, e7, h⟩ := sl.own h
  exact h1 σ _ _ H n _ xF _ (frz_world w e3) (frz_slots sl e es e3 e4 e5 e6 e8 e7) h (fun b n' Hb' H' s pp => q b n' _ H' (s.unview e3 e4 e5 e6 e8) pp) .none

/-! ### while -/
def xsWhile (F : DTT) (B : DTS) : DTS := fun DD ρ n XP => ∃ I : Nat → List SV → Nat → Prop, (∃ m, I m ρ n) ∧ ∀ m ρ n, I m ρ n →
  F ρ n (fun b n1 => match b with
    | true => B { DD with nx := fun ρ' n' => ∃ m', m' < m ∧ I m' ρ' n', ct := fun ρ' n' => ∃ m', m' < m ∧ I m' ρ' n', bk := DD.nx } ρ n1 XP
    | false => DD.nx ρ n1) XP
theorem rds_while {c : TT} {tb : TS} {F : DTT} {B : DTS} (hc : RdT K T S E c F) (hb : RdS K T S E tb B) : RdS K T S E (tWhile c tb) (xsWhile F B) := fun σ ρ Hb0 H0 n0 Hb H n DD XP D a sl h q x => by
  obtain ⟨I, ⟨m0, i0⟩, it⟩ := h
  refine ⟨fun m σ2 H2 => ∃ ρ2 n2 Hb2, Ex Hb Hb2 ∧ Stp K T S Hb0 H0 n0 Hb2 H2 n2 ∧ Sl0 K S H0 Hb2 H2 n2 ρ2 σ2 ∧ I m ρ2 n2, ⟨m0, ρ, n, Hb, Ex.refl _, a, sl, i0⟩, ?_⟩
  rintro m σ2 H2 ⟨ρ2, n2, Hb2, e2, s2, sl2, hI⟩
  refine hc σ2 ρ2 Hb2 H2 n2 _ XP _ s2.wd sl2.sl (it m ρ2 n2 hI) (fun b n3 Hb3 H3 s3 p3 => ?_) (x.step s2)
  cases b with
  | false => exact iteF (q.nx ρ2 σ2 n3 Hb3 H3 (e2.trans s3.ex) (s2.trans s3) (sl2.step s3) p3)
  | true =>
    have e3 := e2.trans s3.ex
    refine iteT ⟨fun σ' H' => ∃ m', m' < m ∧ ∃ ρ' n' Hb', Ex Hb Hb' ∧ Stp K T S Hb0 H0 n0 Hb' H' n' ∧ Sl0 K S H0 Hb' H' n' ρ' σ' ∧ I m' ρ' n', fun σ' H' ⟨m', h1, h2⟩ => ⟨m', h1, h2⟩, ?_⟩
    exact hb σ2 ρ2 Hb0 H0 n0 Hb3 H3 n3 _ XP _ (s2.trans s3) (sl2.step s3) p3 ⟨fun ρ4 σ4 n4 Hb4 H4 e4 s4 sl4 ⟨m', h1, h2⟩ => ⟨m', h1, ρ4, n4, Hb4, e3.trans e4, s4, sl4, h2⟩, q.rt, q.nx.up e3, fun ρ4 σ4 n4 Hb4 H4 e4 s4 sl4 ⟨m', h1, h2⟩ => ⟨m', h1, ρ4, n4, Hb4, e3.trans e4, s4, sl4, h2⟩⟩ x

/-! ### new lists -/
def xnNil : DTL := fun _ n P _ => P [] n
theorem rdn_nil : RdN K T S E (tLst tNil) xnNil := fun σ ρ Hb H n P XP Q w sl h q x => by
  refine ⟨Nat.zero_le _, fun a hp => ?_⟩
  exact q [] a [] n Hb (upd H a (.lst [])) (.newO w hp) (fresh_none hp) upd_same (free_of w.ex hp) .nil h
def xnLst (G : DTA) : DTL := fun ρ n P XP => G ρ n (fun ss n1 => ∃ ds, allD ss = some ds ∧ ds.length ≤ 100000 ∧ P ds n1) XP
theorem rdn_lst {ta : TA} {G : DTA} (h1 : RdA K T S E ta G) : RdN K T S E (tLst ta) (xnLst G) := fun σ ρ Hb H n P XP Q w sl h q x =>
  h1 σ ρ Hb H n _ XP _ w sl h (fun ss vs n1 Hb1 H1 s ha p => by
    obtain ⟨ds, e, hl, p⟩ := p
    have hd := ha.allD e
    refine ⟨sz_of (by rw [hd.len]; exact hl), fun a hp => ?_⟩
    exact q ds a vs n1 Hb1 _ (s.trans (.newO s.wd hp)) (s.dm a (fresh_none hp)) upd_same (free_of s.wd.ex hp) hd p) x
/-- data, or a new list of one's own -/
def MOk (K : PySem.W.Frag) (H0 Hb H : Hp) : SV → V → Prop
  | .d d, v => Dn K Hb v d
  | .ol xs, v => ∃ p vs, v = .ref p ∧ Fresh H0 p ∧ H p = some (.lst vs) ∧ Hb p = none ∧ DnA K Hb vs xs
  | _, _ => False
abbrev DTM := List SV → Nat → (SV → Nat → Prop) → DX → Prop
def RdM (K : PySem.W.Frag) (T : Tb) (S : SA) (E : XK) (te : TE) (F : DTM) : Prop :=
  ∀ σ ρ Hb H n P XP (Q : VK), World T S Hb H → Slots K S Hb H n ρ σ → F ρ n P XP → (∀ s v n' Hb' H', Stp K T S Hb H n Hb' H' n' → MOk K H Hb' H' s v → P s n' → Q v H') → XOk K T S Hb H n XP E → te σ H Q
def xmN (F : DTL) : DTM := fun ρ n P XP => F ρ n (fun xs n1 => P (.ol xs) n1) XP
theorem rdm_n {F : DTL} (h1 : RdN K T S E te F) : RdM K T S E te (xmN F) := fun σ ρ Hb H n P XP Q w sl h q x =>
  h1 σ ρ Hb H n _ XP _ w sl h (fun xs p vs n1 Hb1 H1 s hp e1 e2 hd pp => q (.ol xs) _ n1 Hb1 H1 s ⟨p, vs, rfl, hp, e1, e2, hd⟩ pp) x
theorem MOk.step {H0 : Hp} {s : SV} {v : V} (m : MOk K H0 Hb H s v) (w0 : World T S Hb1 H0) (a : Stp K T S Hb H n Hb2 H2 n2) : MOk K H0 Hb2 H2 s v := by
  cases s with
  | d d => exact Dn.up a.ex m
  | ol xs =>
    obtain ⟨p, vs, rfl, hp, e1, e2, hd⟩ := m
    obtain ⟨m1, m2, m3⟩ := w0.nS hp
    obtain ⟨g1, g2⟩ := a.own p _ e1 e2 m1 m2 (fun ps z => by cases z)
    exact ⟨p, vs, rfl, hp, g1, g2, hd.up a.ex⟩
  | _ => exact m.elim
/-- a slot gets data or a new list -/
theorem Sl0.setM {Hb0 H0 Ha Hc : Hp} {n0 m : Nat} {ρ : List SV} {σ : L2.St} {i : Nat} {s : SV} {v : V} (a : Stp K T S Hb0 H0 n0 Hc Ha m) (sl : Sl0 K S H0 Hb H n ρ σ) (h : MOk K Ha Hb H s v) (ha : ∀ (j : Nat) (ys : List D) (p : Addr), ρ[j]? = some (.ol ys) → σ[j]? = some (some (.ref p)) → v = .ref p → isOwn s = true → False) :
    Sl0 K S H0 Hb H n (ρ.set i s) (σ.set i (some v)) := by
  cases s with
  | d d => exact sl.set h
  | ol xs =>
    obtain ⟨p, vs, rfl, hp, e1, e2, hd⟩ := h
    obtain ⟨m1, m2, m3⟩ := a.wd.nS hp
    refine ⟨sl.sl.setO e1 e2 m1 m2 m3 hd fun j ys ej sj => ha j ys p ej sj rfl rfl, fun j xs r ej eo sj => ?_⟩
    by_cases hj : i = j
    · subst hj
      have hl : i < ρ.length := by
        have := (List.getElem?_eq_some_iff.mp ej).1
        rwa [List.length_set] at this
      rw [List.getElem?_set_self (by rw [← sl.sl.len]; exact hl)] at sj
      have er : p = r := V.ref.inj (Option.some.inj (Option.some.inj sj))
      rw [← er]
      exact a.dm p hp
    · rw [List.getElem?_set_ne hj] at ej sj
      exact sl.fr j xs r ej eo sj
  | _ => exact h.elim
/-- nobody's list is the new one -/
theorem MOk.apart {Ha : Hp} {ρ : List SV} {σ : L2.St} {Hc : Hp} {m : Nat} {s : SV} {v : V} (sl : Slots K S Hc Ha m ρ σ) (h : MOk K Ha Hb H s v) : ∀ (j : Nat) (ys : List D) (p : Addr), ρ[j]? = some (.ol ys) → σ[j]? = some (some (.ref p)) → v = .ref p → isOwn s = true → False := fun j ys p ej sj ev eo => by
  cases s with
  | d d => cases eo
  | ol xs =>
    obtain ⟨r, vs, rfl, hp, e1, e2, hd⟩ := h
    cases ev
    obtain ⟨o, g1, q, ws, g2, g3, _⟩ := sl.ok j _ ej
    rw [g1, g2] at sj
    have er : q = p := V.ref.inj (Option.some.inj (Option.some.inj sj))
    rw [er] at g3
    exact absurd rfl (hp.ne g3 fun _ z => by cases z)
  | _ => exact h.elim
/-- a, b = e1, e2: data or new lists -/
def xsParM (i j : Nat) (F G : DTM) : DTS := fun DD ρ n XP => F ρ n (fun s n1 => G ρ n1 (fun t n2 => DD.nx ((ρ.set i s).set j t) n2) XP) XP
theorem rds_parM {i j : Nat} {te2 : TE} {F G : DTM} (h1 : RdM K T S E te F) (h2 : RdM K T S E te2 G) : RdS K T S E (tPar i j (tCons te (tCons te2 tNil))) (xsParM i j F G) := fun σ ρ Hb0 H0 n0 Hb H n DD XP D a sl h q x =>
  h1 σ ρ Hb H n _ XP _ a.wd sl.sl h (fun s v n1 Hb1 H1 s1 m1 p => h2 σ ρ Hb1 H1 n1 _ XP _ s1.wd (sl.step s1).sl p (fun t u n2 Hb2 H2 s2 m2 p2 => by
    have m1' := m1.step a.wd s2
    have sl2 := (sl.step s1).step s2
    refine ⟨v, u, rfl, q.nx _ _ n2 Hb2 H2 (s1.ex.trans s2.ex) ((a.trans s1).trans s2) (Sl0.setM (a.trans s1) (Sl0.setM a sl2 m1' (m1.apart sl.sl)) m2 fun k ys r ek sk ev eo => ?_) p2⟩
    -- the second list is not the first one
    by_cases hk : i = k
    · subst hk
      have hl : i < ρ.length := by
        have := (List.getElem?_eq_some_iff.mp ek).1
        rwa [List.length_set] at this
      rw [List.getElem?_set_self hl] at ek
      rw [List.getElem?_set_self (by rw [← sl.sl.len]; exact hl)] at sk
      cases ek
      obtain ⟨r', ws, e0, hp, e1, e2, hd⟩ := m1
      subst e0
      have er : r' = r := V.ref.inj (Option.some.inj (Option.some.inj sk))
      subst er
      cases t with
      | d d => cases eo
      | ol zs =>
        obtain ⟨r2, us, e0, hp2, _⟩ := m2
        rw [ev] at e0
        cases e0
        exact absurd rfl (hp2.ne e1 fun _ z => by cases z)
      | _ => exact m2.elim
    · rw [List.getElem?_set_ne hk] at ek sk
      exact m2.apart (sl.step s1).sl k ys r ek sk ev eo) (((x.step a).step s1))) (x.step a)

/-! ### pops -/
theorem DnA.erase : ∀ (m : Nat) {vs : List V} {ds : List D}, DnA K H vs ds → DnA K H (vs.eraseIdx m) (ds.eraseIdx m)
  | _, _, _, .nil => by simp; exact .nil
  | 0, _, _, .cons h1 h2 => by simpa using h2
  | m + 1, _, _, .cons h1 h2 => by simpa using DnA.cons h1 (DnA.erase m h2)
theorem pop_ix {m l : Nat} (h : m < l) : seqIndex? (m : Int) l = some m := by
  have h0 : (0 : Int) ≤ (m : Int) := Int.natCast_nonneg m
  have h1 : (m : Int) < (l : Int) := by omega
  rw [PySem.seqIndex_of h0 h1]
  simp
end
end DL

/-! enumerate of a tuple -/
namespace RZ
open PySem PySem.Spec PyProof.Rows L2
open AutoSeq1 (wpAny_loadPart')
set_option maxHeartbeats 1000000 in
theorem meets_enumT (l : Addr) (items : Array Value) (o : Obj) (hc : o.cls = .type "tuple") (hd : ∃ n, o.data = .seq items n) :
    Meets (Builtin.«enumerate.__new__» ⟨[.type "enumerate", .ref l], []⟩) (fun _ R s => s.heap.get? l = some o ∧
      R (.ok (.ret (.ref (s.heap.push { cls := .type "tuple_iterator", data := .fields #[.ref l, .int 0 0] }).objs.size)))
        { s with heap := (s.heap.push { cls := .type "tuple_iterator", data := .fields #[.ref l, .int 0 0] }).push { cls := .type "enumerate", data := .fields #[.none, .bool false, .ref s.heap.objs.size, rawInt 0, .none, .none] } }) :=
  .of_wp fun prog w A R s h => by
    obtain ⟨oc, dct, dt, sl⟩ := o
    obtain ⟨n, hd⟩ := hd
    dsimp only at hc hd
    subst hc hd
    obtain ⟨hp, g, d, tk, os⟩ := s
    obtain ⟨hl, h⟩ := h
    have hsub := sub_enumerate
    have hL : Heap.IsTuple (Shared.heap ⟨hp, g, d, tk, os⟩) l items := ⟨_, hl, rfl, n, rfl⟩
    wp_walk using wpAny_loadPart' hl
    refine wpAny_stack_any fun st => wpAny_pure ?_
    split
    · rename_i c _ _ _ _ _
      cases (c == Value.type "enumerate") <;> (wp_walk using wpAny_loadPart' hl, wpAny_pyIter_tuple hL; exact ⟨_, rfl, h⟩)
    · wp_walk using wpAny_loadPart' hl, wpAny_pyIter_tuple hL
      exact ⟨_, rfl, h⟩
section
variable {prog : Program} {w : World} {A : Around} {E : Value → Shared → Prop} {s : Shared}
theorem call_enumT {l : Addr} {items : Array Value} {Q : Value → Shared → Prop} (hL : s.heap.IsTuple l items)
    (h : ∀ h', IsEnum h' (s.heap.objs.size + 1) s.heap.objs.size 0 .none → h'.IsTupleIter s.heap.objs.size l 0 → h'.objs.size = s.heap.objs.size + 2 →
      (∀ b o, s.heap.get? b = some o → h'.get? b = some o) → Q (.ref (s.heap.objs.size + 1)) { s with heap := h' }) :
    wpAny (model prog w) A (call (.type "enumerate") [.ref l]) Q E s := by
  obtain ⟨o, hl, hc, hd⟩ := hL
  refine callType_new F.called_enumerate (by decide) (F.typeCall_enumerate_1 _) (F.newCall_enumerate_1 _) (fun obj => F.args_object_init_2 obj _) F.entry_enumerate_new
    (meets_enumT l items o hc hd) ⟨hl, ?_⟩
  have hz : (s.heap.push { cls := .type "tuple_iterator", data := .fields #[.ref l, .int 0 0] }).objs.size = s.heap.objs.size + 1 := Heap.size_push ..
  show _ ∧ _
  rw [hz]
  have he : IsEnum ((s.heap.push { cls := .type "tuple_iterator", data := .fields #[.ref l, .int 0 0] }).push
      { cls := .type "enumerate", data := .fields #[.none, .bool false, .ref s.heap.objs.size, rawInt 0, .none, .none] }) (s.heap.objs.size + 1) s.heap.objs.size 0 .none := by
    have z := Heap.get?_push_size (s.heap.push { cls := .type "tuple_iterator", data := .fields #[.ref l, .int 0 0] })
      (o := { cls := .type "enumerate", data := .fields #[.none, .bool false, .ref s.heap.objs.size, rawInt 0, .none, .none] }) rfl
    rw [hz] at z
    exact z
  exact ⟨⟨_, he, rfl⟩, h _ he ⟨_, Heap.get?_push_of_some _ (Heap.get?_push_size _ rfl), rfl, rfl⟩ (by rw [Heap.size_push, hz]) fun b o x => Heap.get?_push_of_some _ (Heap.get?_push_of_some _ x)⟩
end
/-- the tuple at a, each item in a new pair -/
def IteT (K : PySem.W.Frag) (a : Addr) : It :=
  ⟨fun i H => ∃ (xs : List V) (x : V), SqT K H a xs ∧ xs[i]? = some x, fun i H v H' => ∃ T x, v = .ref T ∧ H T = none ∧ H' = upd H T (.tup [.int (i : Nat), x]) ∧ ∀ xs, SqT K H a xs → xs[i]? = some x, fun i H => ∃ xs : List V, SqT K H a xs ∧ xs.length ≤ i⟩
theorem turn_enumT {P : Program} {w : World} {K : PySem.W.Frag} {elts : List Expr} {kk : Nat} {tpos : Pos} (a e it : Addr) :
    Turn P w K (.Tuple elts kk tpos) (IteT K a) [e, it] e (fun i h => (∃ old, IsEnum h e it ((i : Nat) : Int) old) ∧ h.IsTupleIter it a i ∧ e ≠ it ∧ e ≠ a ∧ a ≠ it) where
  mem := by simp
  obj := fun i h st b hb => by
    obtain ⟨⟨old, he⟩, ⟨o, ho, hc, hd⟩, _⟩ := st
    rcases List.mem_cons.mp hb with z | hb
    · rw [z]; exact ⟨_, he, fun v q => nomatch q⟩
    · rw [List.mem_singleton.mp hb]; exact ⟨o, ho, fun v q => by rw [hd] at q; cases q⟩
  keep := fun i h h' st k => let ⟨⟨old, he⟩, hi, hne⟩ := st; ⟨⟨old, k e (by simp) _ he⟩, hi.at fun o q => k it (by simp) o q, hne⟩
  item := by
    intro X hP hw hK hc i pins s σ H E I hf st hg
    subst hP hw hK
    obtain ⟨⟨old, he⟩, hit, hne, hea, hai⟩ := st
    obtain ⟨xs, x, hq, hx⟩ := hg
    obtain ⟨its, rv, p, hz⟩ := I.tuple hq
    obtain ⟨u, hu, ru⟩ := rv.get hx
    have hu' : its.toArray[i]? = some u := by simpa using hu
    have hel : e < s.heap.objs.size := Heap.lt_size he
    have hil : it < s.heap.objs.size := by obtain ⟨_, q, _⟩ := hit; exact Heap.lt_size q
    have hlt : i < its.toArray.size := (Array.getElem?_eq_some_iff.mp hu').1
    have hd : X.A.in1.handled = none := I.ok.hd hc
    refine wpAny_pyNext_enum_itemC (A := X.A) (Draws.tuple (prog := X.prog) (w := X.w) (A := X.A.in1) hd it a hai its.toArray) he ⟨hit, p⟩ hlt hne (by simp [hne, hea]) fun u' h' tk hP ho hit' hT hsz hk => ?_
    have eu : u' = u := by
      have z : its.toArray[i]? = some u' := hP
      rw [hu'] at z
      exact (Option.some.inj z).symm
    subst eu
    refine ⟨_, rfl, wpAny_letOwnedTupleGo_enum (s := { s with heap := h', toks := tk + 1 }) ho fun h'' he' sb => ?_⟩
    have hT2 : h''.get? s.heap.objs.size = some { cls := .type "tuple", data := .seq #[.int i tk, u'] } := (sb.2 _ (Nat.ne_of_gt hel)).trans hT
    have new : ObjOk X.prog X.w (upd H s.heap.objs.size (.tup [.int (i : Nat), x])) h'' s.heap.objs.size (.tup [.int (i : Nat), x]) :=
      ⟨by show 2 ≤ sizeLine; decide, [.int i tk, u'], .cons ⟨_, rfl⟩ (.cons ru .nil), ⟨_, hT2, rfl, _, rfl⟩⟩
    have I1 : Inv X pins σ (upd H s.heap.objs.size (.tup [.int (i : Nat), x])) { s with heap := h'', toks := tk + 1 } :=
      I.turnedNew (ch := [e, it]) (fun b ob hb q => (sb.2 b (fun z => hb (by simp [z]))).trans (hk b ob (fun z => hb (by simp [z])) (fun z => hb (by simp [z])) q)) hf (Nat.le_refl _) new
    refine ⟨.ref s.heap.objs.size, _, I1, rfl, ⟨_, x, rfl, I.hok.fresh (Nat.le_refl _), rfl, fun ys hy => by rw [I.tuple_inj hy hq]; exact hx⟩, ⟨⟨u', ?_⟩, hit'.1.at fun o q => (sb.2 it (Ne.symm hne)).trans q, hne, hea, hai⟩, fun b hb => ?_⟩
    · have e1 : ((i + 1 : Nat) : Int) = (i : Int) + 1 := by omega
      rw [e1]; exact he'
    · have hb' : b < s.heap.objs.size := by
        rcases List.mem_cons.mp hb with z | hb
        · rw [z]; exact hel
        · rw [List.mem_singleton.mp hb]; exact hil
      rw [upd_ne (Nat.ne_of_lt hb')]
      exact (hf b hb).1
  done := by
    intro X hP hw hK hc i pins s σ H E I hf st hg
    subst hP hw hK
    obtain ⟨⟨old, he⟩, hit, hne, hea, hai⟩ := st
    obtain ⟨xs, hq, hx⟩ := hg
    obtain ⟨its, rv, p, hz⟩ := I.tuple hq
    obtain ⟨f0, f1, f2, f3, f4, f5⟩ := hf it (by simp)
    have hl := rv.length
    have hT : s.TypeIs (.ref e) "enumerate" := ⟨_, he, rfl⟩
    have hd : X.A.handled = none := I.ok.hd hc
    unfold pyNext
    refine wpAny_bind (wpAny_attempt (wpAny_callSpecial?_slot (name := Str.ofString "__next__") hT F.slot_enumerate_next
      (wpAny_call_entry F.slot_enumerate_next hT F.entry_enumerate_next ?_ (F.args_enumerate_next_1 _))))
    show wpAny _ _ (field (.ref e) 2 >>= _) _ _ _
    refine wpAny_bind (wpAny_field he rfl (x := .ref it) rfl ?_)
    show wpAny _ _ (Builtin.SmallTypes.nextOf (.ref it) >>= _) _ _ _
    refine wpAny_bind (nextOf_tuple_end hd hit p (by simp; omega) fun h' ee hs he2 => ?_)
    obtain ⟨o, ho, hcl⟩ := he2
    refine wpAny_bind (wpAny_isInstance (T := "StopIteration") (b := true) ⟨o, ho, hcl⟩ isSubtype_stop ?_)
    exact wpAny_pure ⟨rfl, I.turned (t' := s.toks) (fun b o hb q => hs b o hb q) f0 f1 f3 f4 f5⟩
  self := fun A i s Q E st h => let ⟨⟨_, he⟩, _⟩ := st; wpAny_pyIter_enum he h
def iEnumA (K : PySem.W.Frag) (ta : TA) : TI := fun σ H R => ta σ H fun vs H1 => ∃ a xs, vs = [.ref a] ∧ ((SqL K H1 a xs ∧ R (Ite K a) H1) ∨ (SqT K H1 a xs ∧ R (IteT K a) H1))
theorem pi_enumA {X : Cx} {e : Expr} {ta : TA} {p pos tpos : Pos} {elts : List Expr} {kk : Nat} (hg : Gl X "enumerate") (hm : X.mg "enumerate" = none) (ha : PA X [e] ta) (hs : starEach [e] X.env = [(false, eval e X.env)] := by rfl) :
    PI X (.Tuple elts kk tpos) (.Call (.Name "enumerate" p) [e] [] pos) (iEnumA X.K ta) := by
  refine ⟨fun pins s σ H R I h => ?_⟩
  refine Call_ (ld_blt I hg hm boot_enumerate (PyProof.Rows.callWith_type1 (thn (ha.run pos pins s σ H _ I h) fun us s1 ⟨vs, H1, I1, r1, q1⟩ => ?_) hs rfl))
  obtain ⟨a, xs, ex, q1⟩ := q1
  subst ex
  cases r1 with
  | cons r rr =>
    cases rr
    cases r
    have fp : ∀ b ∈ [s1.heap.objs.size + 1, s1.heap.objs.size], FpOk X pins H1 b := fun b hb => by
      have hle : s1.heap.objs.size ≤ b := by
        rcases List.mem_cons.mp hb with z | hb
        · rw [z]; exact Nat.le_add_right _ _
        · rw [List.mem_singleton.mp hb]; exact Nat.le_refl _
      exact I1.fpOk hle (I1.hok.fresh hle)
    rcases q1 with ⟨hq, q⟩ | ⟨hq, q⟩
    · obtain ⟨its, rv, p', hz⟩ := I1.list hq
      refine call_enumerate_list p'.isList fun h' he hit hsz hk => wpAny_pyIter_enum he ?_
      have I2 : Inv X pins σ H1 { s1 with heap := h' } := I1.kept (t' := s1.toks) hk
      exact ⟨s1.heap.objs.size + 1, [s1.heap.objs.size + 1, s1.heap.objs.size], _, _, H1, rfl, I2, turn_enum a (s1.heap.objs.size + 1) s1.heap.objs.size, ⟨⟨.none, he⟩, hit, Nat.succ_ne_self _⟩, fp, q⟩
    · obtain ⟨its, rv, p', hz⟩ := I1.tuple hq
      obtain ⟨o, ho, _⟩ := id p'
      have hal : a < s1.heap.objs.size := Heap.lt_size ho
      refine call_enumT (show s1.heap.IsTuple a its.toArray from p') fun h' he hit hsz hk => wpAny_pyIter_enum he ?_
      have I2 : Inv X pins σ H1 { s1 with heap := h' } := I1.kept (t' := s1.toks) hk
      exact ⟨s1.heap.objs.size + 1, [s1.heap.objs.size + 1, s1.heap.objs.size], _, _, H1, rfl, I2, turn_enumT a (s1.heap.objs.size + 1) s1.heap.objs.size, ⟨⟨.none, he⟩, hit, Nat.succ_ne_self _, Nat.ne_of_gt (Nat.lt_succ_of_lt hal), Nat.ne_of_lt hal⟩, fp, q⟩
end RZ
namespace DL
open L2 PySem PySem.Spec PyProof.Rows
open Evl (Ex ex_l ex_t sz_of)
section
variable {K : PySem.W.Frag} {T : Tb} {S : SA} {E : XK} {Hb H Hb1 H1 : Hp} {n n1 : Nat} {te : TE} {FE : DT}
def enumD (k : Nat) : List D → List D
  | [] => []
  | x :: xs => .tup [.int (k : Nat), x] :: enumD (k + 1) xs
theorem enumD_len : ∀ {xs : List D} {k : Nat}, (enumD k xs).length = xs.length
  | [], _ => rfl
  | _ :: xs, k => by
    show (enumD (k + 1) xs).length + 1 = _
    rw [enumD_len] <;> rfl
theorem enumD_get : ∀ {xs : List D} {k i : Nat}, (enumD k xs)[i]? = (xs[i]?).map fun x => D.tup [.int ((k + i : Nat) : Int), x]
  | [], _, _ => by simp [enumD]
  | x :: xs, k, 0 => by simp [enumD]
  | x :: xs, k, i + 1 => by
    show (enumD (k + 1) xs)[i]? = _
    rw [enumD_get]
    have e : k + 1 + i = k + (i + 1) := by omega
    rw [e]
    rfl
theorem src_enumL {a : Addr} {xs : List V} {ds : List D} (h : SqL K Hb a xs) (hd : DnA K Hb xs ds) : SrcOk K (Ite K a) Hb (enumD 0 ds) := fun Hb1 H1 i e1 e2 => by
  have h1 := ex_l e2 (ex_l e1 h)
  refine ⟨fun hi => ⟨xs, h1, by rw [enumD_len] at hi; rw [hd.len]; exact hi⟩, fun d e => ?_⟩
  rw [enumD_get] at e
  obtain ⟨x, ex, rfl⟩ := Option.map_eq_some_iff.mp e
  obtain ⟨v, ev, hv⟩ := hd.get ex
  refine ⟨⟨xs, v, h1, ev⟩, fun z H' q => ?_⟩
  obtain ⟨p, x', rfl, hp, rfl, f1⟩ := q
  have z1 := f1 xs h1
  rw [ev] at z1
  cases z1
  have ex := Ex.new (o := .tup [.int (i : Nat), v]) (free_of e2 hp)
  refine .inr ⟨p, _, hp, rfl, (fun _ z => by cases z), .tup (SqT.of upd_same) (.cons ?_ (.cons ((hv.up e1).up ex) .nil))⟩
  rw [Nat.zero_add]
  exact .int _
theorem src_enumT {a : Addr} {xs : List V} {ds : List D} (h : SqT K Hb a xs) (hd : DnA K Hb xs ds) : SrcOk K (RZ.IteT K a) Hb (enumD 0 ds) := fun Hb1 H1 i e1 e2 => by
  have h1 := ex_t e2 (ex_t e1 h)
  refine ⟨fun hi => ⟨xs, h1, by rw [enumD_len] at hi; rw [hd.len]; exact hi⟩, fun d e => ?_⟩
  rw [enumD_get] at e
  obtain ⟨x, ex, rfl⟩ := Option.map_eq_some_iff.mp e
  obtain ⟨v, ev, hv⟩ := hd.get ex
  refine ⟨⟨xs, v, h1, ev⟩, fun z H' q => ?_⟩
  obtain ⟨p, x', rfl, hp, rfl, f1⟩ := q
  have z1 := f1 xs h1
  rw [ev] at z1
  cases z1
  have ex := Ex.new (o := .tup [.int (i : Nat), v]) (free_of e2 hp)
  refine .inr ⟨p, _, hp, rfl, (fun _ z => by cases z), .tup (SqT.of upd_same) (.cons ?_ (.cons ((hv.up e1).up ex) .nil))⟩
  rw [Nat.zero_add]
  exact .int _
def xiEnum (G : DTA) : DTI := fun ρ n P XP => G ρ n (fun ss n1 => match ss with
  | [.d (.lst xs)] => P (enumD 0 xs) n1
  | [.d (.tup xs)] => P (enumD 0 xs) n1
  | _ => False) XP
theorem rdi_enum {ta : TA} {GA : DTA} (h1 : RdA K T S E ta GA) : RdI K T S E (RZ.iEnumA K ta) (xiEnum GA) := fun σ ρ Hb H n P XP R w sl h q x =>
  h1 σ ρ Hb H n _ XP _ w sl h (fun ss vs n1 Hb1 H1 s ha p => by
    match ss, ha, p with
    | [.d (.lst xs)], ha, p =>
      obtain ⟨v, rfl, hv⟩ := Args.one (ss := []) ha
      cases hv with
      | @lst a as ds g1 g2 => exact ⟨a, as, rfl, .inl ⟨ex_l s.wd.ex g1, q _ n1 Hb1 H1 _ s (src_enumL g1 g2) p⟩⟩
    | [.d (.tup xs)], ha, p =>
      obtain ⟨v, rfl, hv⟩ := Args.one (ss := []) ha
      cases hv with
      | @tup a as ds g1 g2 => exact ⟨a, as, rfl, .inr ⟨ex_t s.wd.ex g1, q _ n1 Hb1 H1 _ s (src_enumT g1 g2) p⟩⟩) x

/-! ### three targets -/
end
end DL

/-! dicts of one's own -/
namespace DL
open L2 PySem PySem.Spec PyProof.Rows
open Evl (Ex ex_l ex_t sz_of)
def isOd : SV → Bool
  | .od _ _ => true
  | .ot _ _ => true
  | _ => false
def noOd : List SV → Bool
  | [] => true
  | s :: ss => !isOd s && noOd ss
theorem noOd_get : ∀ {ρ : List SV} {i : Nat} {s : SV}, noOd ρ = true → ρ[i]? = some s → isOd s = false
  | [], i, s, _, e => by simp at e
  | t :: ss, 0, s, h, e => by
    simp at e
    subst e
    have z : (!isOd t && noOd ss) = true := h
    cases h1 : isOd t with
    | false => rfl
    | true => rw [h1] at z; cases z
  | t :: ss, i + 1, s, h, e => by
    have z : (!isOd t && noOd ss) = true := h
    exact noOd_get (ρ := ss) (i := i) (Bool.and_eq_true_iff.mp z).2 (by simpa using e)
section
variable {K : PySem.W.Frag} {T : Tb} {S : SA} {E : XK} {Hb H Hb1 H1 : Hp} {n n1 : Nat} {te : TE} {FE : DT}
/-- what is one's own is rewritten -/
theorem Stp.put {p : Addr} {o u : HO} (s : Stp K T S Hb H n Hb1 H1 n1) (hp : Fresh H p) (h2 : Hb1 p = none) (h1 : H1 p = some o) (nt : ∀ ps, o ≠ .tbl ps) (nx : ∀ φ, o ≠ .ext φ) (nu : ∀ ps, u ≠ .tbl ps) (na : p ≠ S.a) (nl : p ≠ S.l) : Stp K T S Hb H n Hb1 (upd H1 p u) n1 := by
  refine ⟨s.ex, s.wd.put h1 h2 nt nx nu, fun h0 => ?_, fun b v e1 e2 e3 e4 e5 => ?_, fun b e => s.dm b (dm_upd nu b e)⟩
  · obtain ⟨g1, g2, ls, cs, m, t, g3, g4, g5, g6, g7, g8, rest⟩ := s.st h0
    exact ⟨g1, g2, ls, cs, m, t, g3, g4, g5, by rw [upd_ne na.symm]; exact g6, by rw [upd_ne nl.symm]; exact g7, g8, rest⟩
  · rw [upd_ne (hp.ne e1 e5)]
    exact s.own0 b v e1 e2 e3 e4 e5
def slotE (ρ : List SV) (i : Nat) (k : List Key → List D → Prop) : Prop := match ρ[i]? with
  | some (.od ks ds) => k ks ds
  | _ => False
theorem slotE_zero {ks : List Key} {ds : List D} {ρ : List SV} {k : List Key → List D → Prop} : slotE (.od ks ds :: ρ) 0 k = k ks ds := rfl
theorem slotE_succ {s : SV} {ρ : List SV} {i : Nat} {k : List Key → List D → Prop} : slotE (s :: ρ) (i + 1) k = slotE ρ i k := rfl
theorem Slots.ownE {ρ : List SV} {σ : L2.St} {i : Nat} {k : List Key → List D → Prop} (sl : Slots K S Hb H n ρ σ) (h : slotE ρ i k) : ∃ ks ds p kvs, ρ[i]? = some (.od ks ds) ∧ σ[i]? = some (some (.ref p)) ∧ H p = some (.dK kvs) ∧ Hb p = none ∧ p ≠ S.a ∧ p ≠ S.l ∧ p ≠ S.c ∧ kvs.map (·.1) = ks ∧ DnA K Hb (kvs.map (·.2)) ds ∧ k ks ds := by
  unfold slotE at h
  cases e : ρ[i]? with
  | none => rw [e] at h; exact h.elim
  | some s =>
    rw [e] at h
    cases s with
    | od ks ds =>
      obtain ⟨o, e1, p, kvs, e2, e3, e4, e5, e6, e8, e7, e9⟩ := sl.ok i _ e
      exact ⟨ks, ds, p, kvs, rfl, by rw [e1, e2], e3, e4, e5, e6, e8, e7, e9, h⟩
    | ot _ _ => exact h.elim
    | _ => exact h.elim
/-- a slot that holds no list gets what holds -/
theorem Slots.setX {ρ : List SV} {σ : L2.St} {i : Nat} {s : SV} {o : Option V} (sl : Slots K S Hb H n ρ σ) (h : SlotOk K S Hb H n s o) (hs : ∀ xs, s ≠ .ol xs) : Slots K S Hb H n (ρ.set i s) (σ.set i o) where
  len := by rw [List.length_set, List.length_set]; exact sl.len
  ok := fun j t e => by
    by_cases hj : i = j
    · subst hj
      have hl : i < ρ.length := by
        have := (List.getElem?_eq_some_iff.mp e).1
        rwa [List.length_set] at this
      rw [List.getElem?_set_self hl] at e
      cases e
      exact ⟨o, List.getElem?_set_self (by rw [← sl.len]; exact hl), h⟩
    · rw [List.getElem?_set_ne hj] at e
      obtain ⟨o, e1, e2⟩ := sl.ok j t e
      exact ⟨o, by rw [List.getElem?_set_ne hj]; exact e1, e2⟩
  ap := fun j k p xs ys hjk ej ek sj sk => by
    by_cases h1 : i = j
    · subst h1
      have hl : i < ρ.length := by
        have := (List.getElem?_eq_some_iff.mp ej).1
        rwa [List.length_set] at this
      rw [List.getElem?_set_self hl] at ej
      exact hs _ (Option.some.inj ej)
    · by_cases h2 : i = k
      · subst h2
        have hl : i < ρ.length := by
          have := (List.getElem?_eq_some_iff.mp ek).1
          rwa [List.length_set] at this
        rw [List.getElem?_set_self hl] at ek
        exact hs _ (Option.some.inj ek)
      · rw [List.getElem?_set_ne h1] at ej sj
        rw [List.getElem?_set_ne h2] at ek sk
        exact sl.ap j k p xs ys hjk ej ek sj sk
/-- the rest of the frame where the dict at p is rewritten -/
theorem Slots.putE {ρ : List SV} {σ : L2.St} {p : Addr} {kvs us : List (Key × V)} (sl : Slots K S Hb H n ρ σ) (h1 : H p = some (.dK kvs)) (h3 : p ≠ S.a) (h4 : p ≠ S.l) (no : noOd ρ = true) : Slots K S Hb (upd H p (.dK us)) n ρ σ := by
  have keep : ∀ {b : Addr} {o : HO}, H b = some o → b ≠ p → upd H p (.dK us) b = some o := fun e hb => by rw [upd_ne hb]; exact e
  refine ⟨sl.len, fun j s e => ?_, sl.ap⟩
  obtain ⟨o, e1, e2⟩ := sl.ok j s e
  refine ⟨o, e1, ?_⟩
  cases s with
  | no => trivial
  | d x => exact e2
  | st =>
    obtain ⟨e3, st⟩ := e2
    obtain ⟨g1, g2, ls, cs, m, t, g3, g4, g5, g6, g7, g8, rest⟩ := st
    exact ⟨e3, g1, g2, ls, cs, m, t, g3, g4, g5, keep g6 h3.symm, keep g7 h4.symm, g8, rest⟩
  | ol zs =>
    obtain ⟨q, ws, e3, e4, rest⟩ := e2
    exact ⟨q, ws, e3, keep e4 (fun z => by rw [z, h1] at e4; cases e4), rest⟩
  | me y C ms es2 =>
    obtain ⟨e3, dx, fs, e4, rest⟩ := e2
    exact ⟨e3, dx, fs, keep e4 (fun z => by rw [z, h1] at e4; cases e4), rest⟩
  | od ks es2 =>
    have z := noOd_get no e
    cases z
  | ot ks es2 =>
    have z := noOd_get no e
    cases z
  | fv F =>
    obtain ⟨f, c, e3, e4, e5, rest⟩ := e2
    exact ⟨f, c, e3, e4, keep e5 (fun z => by rw [z, h1] at e5; exact codeO_no (o := .dK kvs) (fun _ z => by cases z) (Option.some.inj e5)), rest⟩
theorem set_set {α : Type} {ρ : List α} {i : Nat} {a b : α} : (ρ.set i a).set i b = ρ.set i b := List.set_set ..
theorem set_get {α : Type} : ∀ {ρ : List α} {i : Nat} {a : α}, ρ[i]? = some a → ρ.set i a = ρ
  | [], _, _, _ => rfl
  | x :: ρ, 0, a, h => by
    simp at h
    rw [h]
    rfl
  | x :: ρ, i + 1, a, h => by
    show x :: ρ.set i a = _
    rw [set_get (by simpa using h)]
theorem OwF.setF {H0 : Hp} {ρ : List SV} {σ : L2.St} {i : Nat} {s : SV} {p : Addr} (f : OwF H0 ρ σ) (h : Fresh H0 p) (hl : ρ.length = σ.length) : OwF H0 (ρ.set i s) (σ.set i (some (.ref p))) := fun j xs r ej eo sj => by
  by_cases hj : i = j
  · subst hj
    have hl2 : i < ρ.length := by
      have := (List.getElem?_eq_some_iff.mp ej).1
      rwa [List.length_set] at this
    rw [List.getElem?_set_self (by rw [← hl]; exact hl2)] at sj
    have er : p = r := V.ref.inj (Option.some.inj (Option.some.inj sj))
    rw [← er]
    exact h
  · rw [List.getElem?_set_ne hj] at ej sj
    exact f j xs r ej eo sj
/-- x = {..}, a dict of one's own -/
def xsSetD (i : Nat) (prs : List (DT × DT)) : DTS := fun DD ρ n XP => noOd (ρ.set i .no) = true ∧ xPairs prs ρ n (fun ks ds n1 => ks.Nodup ∧ ks.length ≤ 15 ∧ DD.nx (ρ.set i (.od ks ds)) n1) XP
theorem rds_setD {i : Nat} {trs : List (TE × TE)} {prs : List (DT × DT)} (h : RdP K T S E trs prs) : RdS K T S E (tAsg (tDisp trs) (gName i)) (xsSetD i prs) := fun σ ρ Hb0 H0 n0 Hb H n DD XP D a sl hp q x p hn => by
  obtain ⟨no, hp⟩ := hp
  have w := a.wd
  have s0 : Stp K T S Hb H n Hb (upd H p (.dK [])) n := .newO w hn
  obtain ⟨n1, n2, n3⟩ := w.nS (fresh_none hn)
  refine rd_pairs h s0.wd ((sl.sl).step s0) hp (fun kvs ks ds n' Hb' H' s ek hd p1 => ?_) ((x.step a).step s0)
  obtain ⟨hnd, hl, p1⟩ := p1
  obtain ⟨g1, g2⟩ := s.own p _ upd_same (free_of w.ex hn) n1 n2 (fun ps z => by cases z)
  have el : kvs.length = ks.length := by rw [← ek, List.length_map]
  refine ⟨g1, kvs, rfl, by omega, ?_⟩
  have em : mergeK [] kvs = kvs := by
    rw [merge_nodup (by rw [List.nil_append, ek]; exact hnd)]
    rfl
  rw [em]
  have s2 := s0.trans s
  have s3 := s2.put (u := .dK kvs) (fresh_none hn) g2 g1 (fun _ z => by cases z) (fun _ z => by cases z) (fun _ z => by cases z) n1 n2
  have sl2 := sl.step s2
  have f0 : Fresh H0 p := a.dm p (fresh_none hn)
  have b1 : Slots K S Hb' H' n' (ρ.set i .no) (σ.set i (some (.ref p))) := sl2.sl.forget
  have b2 := b1.putE (us := kvs) g1 n1 n2 no
  have b3 := b2.setX (i := i) (s := .od ks ds) (o := some (.ref p)) ⟨p, kvs, rfl, upd_same, g2, n1, n2, n3, ek, hd⟩ (fun _ z => by cases z)
  rw [set_set, set_set] at b3
  exact q.nx _ _ n' Hb' _ s3.ex (a.trans s3) ⟨b3, sl2.fr.setF f0 sl.sl.len⟩ p1
/-- return x, x a dict of one's own -/
def xsRetE (i : Nat) : DTS := fun DD ρ n _ => slotE ρ i fun ks ds => DD.rt (.dic ks ds) n
theorem rds_retE {i : Nat} : RdS K T S E (tRet (tVar i)) (xsRetE i) := fun σ ρ Hb0 H0 n0 Hb H n DD XP D a sl h q x => by
  obtain ⟨ks, ds, p, kvs, e, es, e3, e4, e5, e6, e8, e7, e9, h⟩ := sl.sl.ownE h
  have f0 : Fresh H0 p := sl.fr i _ p e rfl es
  have a' := a.freeze (o := .dK kvs) f0 e4 (by rw [e3]; exact fun z => by cases z) (fun ps z => by rw [e3] at z; cases z) (fun c u z => by rw [e3] at z; exact codeO_no (o := .dK kvs) (fun _ z => by cases z) (Option.some.inj z)) e5 e6 e8
  rw [upd_id e3] at a'
  exact ⟨.ref p, es, q.rt _ _ n _ H a' (.dic upd_same e7 (e9.up (Ex.new e4))) h⟩
end
end DL

/-! exceptions with one attribute: raised, asked -/
namespace DL
open L2 PySem PySem.Spec PyProof.Rows
open Evl (Ex ex_l ex_t sz_of)
section
variable {P : Program} {w : PySem.World} {K : PySem.W.Frag} {T : Tb} {mg : Str → Option Value} {base : Heap}
end
section
variable {K : PySem.W.Frag} {T : Tb} {S : SA} {E : XK} {Hb H Hb1 H1 : Hp} {n n1 : Nat} {te : TE} {FE : DT}
end
end DL

/-! lambdas of one value that are handed on and called; functions as data -/
namespace DL
open L2 PySem PySem.Spec PyProof.Rows
open Evl (Ex ex_l ex_t sz_of)
/-! ### the call of such a lambda -/
section
variable {P : Program} {w : PySem.World} {K : PySem.W.Frag} {T : Tb} {mg : Str → Option Value} {base : Heap} {k : Nat} {F : FV} {sp : Sp}
end
section
variable {X : Cx} {k i : Nat} {x : Str} {p pos : Pos} {e : Expr} {ta : TA} {E : XK}
/-! ### its making -/
end
end DL

/-! function values on data; keywords -/
namespace DL
open L2 PySem PySem.Spec PyProof.Rows
open Evl (Ex ex_l ex_t sz_of)
section
variable {P : Program} {w : PySem.World} {mg : Str → Option Value} {base : Heap} {K : PySem.W.Frag} {T : Tb} {S : SA} {E : XK} {Hb H Hb1 H1 : Hp} {n n1 k : Nat} {te : TE} {FE : DT} {ta : TA} {GA : DTA}
/-! ### functions as data -/
/-! ### keywords -/
def gpI {α : Type} : List Nat → List α → List α
  | [], _ => []
  | i :: is, ws => match ws[i]? with
    | some w => w :: gpI is ws
    | none => gpI is ws
def gp {α : Type} (ix : List Nat) (us ws : List α) : List α := us ++ gpI ix ws
theorem vals_get {zs : List V} {ws : List Value} (h : Vals zs ws) : ∀ i : Nat, (∃ z w, zs[i]? = some z ∧ ws[i]? = some w ∧ L2.RelV z w) ∨ (zs[i]? = none ∧ ws[i]? = none) := by
  induction h with
  | nil => intro i; right; simp
  | @cons z w zs ws r _ ih =>
    intro i
    cases i with
    | zero => exact .inl ⟨z, w, rfl, rfl, r⟩
    | succ i => simpa using ih i
theorem gpI_rel {zs : List V} {ws : List Value} (h : Vals zs ws) : ∀ ix : List Nat, Vals (gpI ix zs) (gpI ix ws)
  | [] => .nil
  | i :: ix => by
    unfold gpI
    rcases vals_get h i with ⟨z, w, e1, e2, r⟩ | ⟨e1, e2⟩
    · rw [e1, e2]
      exact .cons r (gpI_rel h ix)
    · rw [e1, e2]
      exact gpI_rel h ix
theorem gp_rel {ix : List Nat} {vs : List V} {us : List Value} {zs : List V} {ws : List Value} (h : Vals vs us) (g : Vals zs ws) : Vals (gp ix vs zs) (gp ix us ws) := h.append (gpI_rel g ix)
theorem Args.getI {ss : List SV} {vs : List V} (h : Args K S Hb H n ss vs) : ∀ i : Nat, (∃ s v, ss[i]? = some s ∧ vs[i]? = some v ∧ SlotOk K S Hb H n s (some v)) ∨ (ss[i]? = none ∧ vs[i]? = none) := by
  induction h with
  | nil => intro i; right; simp
  | @cons s v ss vs r _ ih =>
    intro i
    cases i with
    | zero => exact .inl ⟨s, v, rfl, rfl, r⟩
    | succ i => simpa using ih i
theorem Args.gpI {ss : List SV} {vs : List V} (h : Args K S Hb H n ss vs) : ∀ ix : List Nat, Args K S Hb H n (DL.gpI ix ss) (DL.gpI ix vs)
  | [] => .nil
  | i :: ix => by
    unfold DL.gpI
    rcases h.getI i with ⟨z, w, e1, e2, r⟩ | ⟨e1, e2⟩
    · rw [e1, e2]
      exact .cons r (Args.gpI h ix)
    · rw [e1, e2]
      exact Args.gpI h ix
theorem Args.append {ss ts : List SV} {vs us : List V} (h : Args K S Hb H n ss vs) (g : Args K S Hb H n ts us) : Args K S Hb H n (ss ++ ts) (vs ++ us) := by
  induction h with
  | nil => exact g
  | cons r _ ih => exact .cons r ih
def ds0 (DS : DSp0) : DSp := fun ss n P _ => noOl ss = true ∧ DS ss n P
end
section
variable {X : Cx} {CX : CXT} {k : Nat} {f : Addr} {fd : FuncData} {ps ks : List Str} {sp : Sp} {E : XK} {x : Str} {p pos : Pos} {kws : List Keyword} {tk : TA} {g : List Value → List Value → List Value} {gV : List V → List V → List V}
/-- f(k = v, ..) -/
theorem pe_callN0 (F : FnOk X.prog X.w X.K X.mg X.base CX k f fd ps sp) (hr : Room k X.A) (hg : Gl X x) (hm : X.mg x = some (.ref f)) (hk : PySem.W.keepIn X.K (.ref f) = true) (hb : KBn X.K fd ps 0 ks g gV) (hx : Passes CX X E)
    (hkw : PK X kws tk) (hall : (backToKw pos (keywordEach kws X.env)).all (·.1.isSome) = true := by rfl) (hks : (backToKw pos (keywordEach kws X.env)).filterMap (·.1) = ks := by rfl)
    (hdb : (x == ("__debug__" : Str)) = false := by decide)
    (hpl : ((backTo pos (starEach [] X.env)).any (·.1) || (backToKw pos (keywordEach kws X.env)).any (·.1.isNone)) = false := by rfl) :
    PE X (.Call (.Name x p) [] kws pos) (tCallN 0 ks.length sp gV E tNil tk) := by
  refine ⟨fun pins s σ H Q I h => ?_⟩
  refine wpAny_Call_Name_kw (ld_glob I hg hm ?_ hdb)
  refine PySem.W.callWith_KW0 (h₀ := X.base) I.ok.mod.kin hk hall ?_ hpl
  refine thn (hkw.run pos pins s σ H _ I h) fun ws s2 ⟨zs, H2, I2, rz, l1, l2, q2⟩ => ⟨I2.kIn, ?_⟩
  rw [hks]
  exact run_fnN (us := []) (vs := []) F hr hb hx I2 .nil rz rfl l2 q2
end
section
variable {K : PySem.W.Frag} {x qual : Str} {st : Stmt} {f : Addr} {fd : FuncData} {ps ks : List Str} {n : Nat} {ix : List Nat}
theorem kbn_of (F : L2.Fun K x qual st f fd) (h : ∀ (kV doc pm : Value) (an : Option Addr) (cdv ct : Value) (us ws : List Value), us.length = n → ws.length = ks.length → bindArgs (PySem.W.fnOf x qual (defArgs st) (defBody st) (defScope st) .none kV doc pm an cdv ct) ⟨us, ks.zip ws⟩ = pure (ps.zip (gp ix us ws))) : KBn K fd ps n ks (gp ix) (gp ix) := by
  obtain ⟨oc, od, kV, doc, pm, an, cdv, ct, osl, rfl, lk, hcd⟩ := F.ex
  exact ⟨fun s us ws _ h1 h2 => .of_eq (h kV doc pm an cdv ct us ws h1 h2), fun a b => gp_rel a b⟩
/-- a def as it stands, for calls by keywords too -/
def HasF (P : Program) (w : PySem.World) (K : PySem.W.Frag) (mg : Str → Option Value) (base : Heap) (CX : CXT) (k : Nat) (name : Str) (st : Stmt) (ps : List Str) (sp : Sp) : Prop :=
  ∃ f fd, FnOk P w K mg base CX k f fd ps sp ∧ mg name = some (.ref f) ∧ PySem.W.keepIn K (.ref f) = true ∧ Binds K fd ps [] ∧ L2.Fun K name name st f fd
theorem HasF.has {P : Program} {w : PySem.World} {mg : Str → Option Value} {base : Heap} {CX : CXT} {k : Nat} {name : Str} {sp : Sp} (h : HasF P w K mg base CX k name st ps sp) : Has P w K mg base CX k name ps sp := by
  obtain ⟨f, fd, a, b, c, d, _⟩ := h
  exact ⟨f, fd, a, b, c, d⟩
end
end DL

/-! t[::-1] of a tuple; xs != [] whatever the items; sorted of ints -/
namespace HT
open PySem PySem.Spec PyProof.Rows
section
variable {prog : Program} {w : World} {A : Around} {E : Value → Shared → Prop} {s : Shared}
end
end HT
namespace DL
open L2 PySem PySem.Spec PyProof.Rows
open Evl (Ex ex_l ex_t sz_of)
/-! ### t[::-1] -/
section
variable {K : PySem.W.Frag} {T : Tb} {S : SA} {E : XK} {Hb H Hb1 H1 : Hp} {n n1 : Nat} {te : TE} {FE : DT}
/-! ### xs != [] -/
def rNeNil (K : PySem.W.Frag) : R2 := fun x y H Q => ∃ a b xs, x = .ref a ∧ y = .ref b ∧ SqL K H a xs ∧ SqL K H b [] ∧ Q (.bl (!xs.isEmpty)) H
theorem op_neNil {X : Cx} (hu : X.A.units + 64 < cLine) : OpR X (compareOp .NotEq) (rNeNil X.K) := by
  intro pins s σ H x y v u Q I rx ry h
  obtain ⟨a, b, xs, rfl, rfl, ha, hb, q⟩ := h
  cases rx
  cases ry
  obtain ⟨its, r1, p1, _⟩ := I.list ha
  obtain ⟨its2, r2, p2, _⟩ := I.list hb
  have hu0 : X.A.units < cLine := Nat.lt_of_le_of_lt (Nat.le_add_right _ _) hu
  have e2 : its2 = [] := by
    cases r2
    rfl
  subst e2
  cases xs with
  | nil =>
    have e1 : its = [] := by
      cases r1
      rfl
    subst e1
    exact SeqAt.RcNeAt.lists (e := fun _ => true) p1.isList p2.isList rfl hu0 (fun j h1 h2 => by simp at h1) X.prog X.w _ _ ⟨.bl _, H, I, rfl, q⟩
  | cons x xs =>
    have hl := r1.length
    exact SeqAt.RcNeAt.lists_lengths p1.isList p2.isList (by simp; intro z; rw [z] at hl; simp at hl) hu0 X.prog X.w _ _ ⟨.bl _, H, I, rfl, q⟩
def neNilD : D → D → (D → Prop) → Prop := fun a b k => match a, b with
  | .lst xs, .lst [] => k (.bl (!xs.isEmpty))
  | _, _ => False
theorem o2_neNil : Op2 K (rNeNil K) neNilD := by
  intro T S x y a b Hb H n P Q w hx hy h q
  unfold neNilD at h
  split at h
  · cases hx with
    | @lst p vs ds g1 g2 =>
      cases hy with
      | @lst p2 vs2 ds2 g3 g4 =>
        cases g4
        refine ⟨p, p2, vs, rfl, rfl, ex_l w.ex g1, ex_l w.ex g3, q.now w (.bl _) ?_⟩
        cases g2 with
        | nil => exact h
        | cons _ _ => exact h
  · exact h.elim
/-! ### sorted of ints -/
theorem ints_of : ∀ {ns : List Int} {vs : List V}, DnA K H vs (ns.map D.int) → vs = ns.map V.int
  | [], _, h => by cases h; rfl
  | n :: ns, _, h => by
    cases h with
    | cons h1 h2 =>
      cases h1
      rw [ints_of h2]
      rfl
end
end DL

/-! list(range(n)); len(set(t)) of a tuple of ints; t == () of a tuple -/
namespace RZ
open L2 PySem PySem.Spec PyProof.Rows PySem.W Pv
def intsV (m : Nat) : List V := (List.range m).map fun (j : Nat) => V.int (j : Int)
def tListRng (ta : TA) : TE := fun σ H Q => ta σ H fun vs H1 => ∃ i : Int, vs = [.int i] ∧ 0 ≤ i ∧ i ≤ 100000 ∧ ∀ p, H1 p = none → Q (.ref p) (upd H1 p (.lst (intsV i.toNat)))
theorem vals_at : ∀ {vs : List V} {us : List Value}, vs.length = us.length → (∀ (j : Nat) (v : V) (u : Value), vs[j]? = some v → us[j]? = some u → L2.RelV v u) → Vals vs us
  | [], [], _, _ => .nil
  | v :: vs, u :: us, hl, h => .cons (h 0 v u rfl rfl) (vals_at (by simpa using hl) fun j v u a b => h (j + 1) v u a b)
theorem rel_ints {acc : Array Value} {m : Nat} (h : ItemsOf (fun i v => ∃ t, v = Value.int ((0 : Int) + (i : Int) * 1) t) acc m) : Vals (intsV m) acc.toList := by
  refine vals_at (by simp [intsV, h.1]) fun j v u a b => ?_
  obtain ⟨t, rfl⟩ := h.2 j u (by simpa using b)
  unfold intsV at a
  rw [List.getElem?_map] at a
  have hj : j < m := by
    apply Decidable.byContradiction
    intro z
    rw [List.getElem?_eq_none (by simp; omega)] at a
    cases a
  rw [List.getElem?_range hj] at a
  simp only [Option.map_some, Option.some.injEq] at a
  subst a
  exact ⟨t, by simp⟩
theorem pe_listRng {X : Cx} {e : Expr} {ta : TA} {p p2 pos pos2 : Pos} (hgl : Gl X "list") (hml : X.mg "list" = none) (hg : Gl X "range") (hm : X.mg "range" = none) (ha : PA X [e] ta)
    (hc : X.calm = true := by rfl)
    (na : starEach [.Call (.Name "range" p2) [e] [] pos2] X.env = (false, eval (.Call (.Name "range" p2) [e] [] pos2) X.env) :: starEach [] X.env := by rfl)
    (hs : starEach [e] X.env = (false, eval e X.env) :: starEach [] X.env := by rfl) (hpl : (backTo pos2 (starEach [] X.env)).any (·.1) = false := by rfl) :
    PE X (.Call (.Name "list" p) [.Call (.Name "range" p2) [e] [] pos2] [] pos) (tListRng ta) := by
  refine ⟨fun pins s σ H Q I h => ?_⟩
  refine Call_ (ld_blt I hgl hml PyProof.Rows.boot_list ?_)
  refine PyProof.Rows.callWith_type1 (PyProof.Rows.args_cons ?_ na) na rfl
  refine Call_ (ld_blt I hg hm PyProof.Rows.boot_range (PyProof.Rows.callWith_type1 (thn (ha.run pos2 pins s σ H _ I h) fun us s1 ⟨vs, H1, I1, r1, q1⟩ => ?_) hs hpl))
  obtain ⟨i, ex, h0, hi, q⟩ := q1
  subst ex
  cases r1 with
  | cons r rr =>
    cases rr
    obtain ⟨t, r⟩ := r
    subst r
    refine call_range_1 ?_
    refine PyProof.Rows.args_nil ?_
    have hsz : Builtin.Range.rangeSize 0 i 1 = (i.toNat : Int) := by rw [rangeSize_nat]; simp
    have hR : IsRange (s1.heap.push { cls := .type "range", data := .fields #[.int 0 s1.toks, .int i t, .int 1 (s1.toks + 1)] }) s1.heap.objs.size 0 i 1 s1.toks t (s1.toks + 1) := Heap.get?_push_size _ rfl
    have hsm : Builtin.Range.small 0 i 1 = true := by
      unfold Builtin.Range.small
      rw [hsz]
      unfold Builtin.Range.rangeFitsLong
      have a1 : (-2 ^ 63 : Int) ≤ i := by omega
      have a2 : i < (2 ^ 63 : Int) := by omega
      have a3 : (-2 ^ 63 : Int) ≤ ((i.toNat : Nat) : Int) := by omega
      have a4 : ((i.toNat : Nat) : Int) < (2 ^ 63 : Int) := by omega
      have a5 : (-2 ^ 63 : Int) ≤ i + (1 - 1) := by omega
      have a6 : i + (1 - 1) < (2 ^ 63 : Int) := by omega
      simp only [a1, a2, a3, a4, a5, a6, decide_true, Bool.and_self, Bool.and_true, Bool.true_and]
      simp
    refine call_list_range (I1.ok.hd hc) hR hsm hsz (by omega) fun h' tk acc c' hk hl hi => ?_
    have hkk : ∀ b o, s1.heap.get? b = some o → h'.get? b = some o := fun b o e => hk b o (Heap.get?_push_of_some _ e)
    have hle : s1.heap.objs.size ≤ s1.heap.objs.size + 1 := Nat.le_succ _
    have hps : (s1.heap.push { cls := .type "range", data := .fields #[.int 0 s1.toks, .int i t, .int 1 (s1.toks + 1)] }).objs.size = s1.heap.objs.size + 1 := by simp [Heap.push]
    rw [hps] at hl ⊢
    have hSH : H1 (s1.heap.objs.size + 1) = none := I1.hok.fresh hle
    have okF : HOk X.prog X.w (upd H1 (s1.heap.objs.size + 1) (.lst (intsV i.toNat))) h' := (I1.hok.kept hkk).laidN (fun _ _ q => q) hSH ⟨by simp only [intsV, List.length_map, List.length_range]; exact Nat.le_trans (m := 100000) (by omega) (by decide), acc.toList, c', rel_ints hi, by rw [hl]⟩
    exact ⟨.ref _, _, I1.un (t' := tk) (Un.more (Un.kept hkk) hle hSH) okF, rfl, q _ hSH⟩
theorem vals_ints : ∀ {ns : List Int} {us : List Value}, Vals (ns.map V.int) us → IntsAre us ns
  | [], _, h => by cases h; exact .nil
  | n :: ns, _, h => by
    cases h with
    | cons r rr =>
      obtain ⟨t, r⟩ := r
      subst r
      exact .cons n t (vals_ints rr)
/-! ### t == () -/
end RZ
namespace DL
open L2 PySem PySem.Spec PyProof.Rows
open Evl (Ex ex_l ex_t sz_of)
section
variable {K : PySem.W.Frag} {T : Tb} {S : SA} {E : XK} {te : TE} {FE : DT}
def natsI (m : Nat) : List Int := (List.range m).map fun (j : Nat) => (j : Int)
def natsD (m : Nat) : List D := (natsI m).map D.int
theorem intsV_eq {m : Nat} : RZ.intsV m = (natsI m).map V.int := by unfold RZ.intsV natsI; rw [List.map_map]; rfl
def xListRng (G : DTA) : DT := fun ρ n P XP => G ρ n (fun ss n1 => ∃ i : Int, ss = [.d (.int i)] ∧ 0 ≤ i ∧ i ≤ 100000 ∧ P (.lst (natsD i.toNat)) n1) XP
theorem rd_listRng {ta : TA} {GA : DTA} (h1 : RdA K T S E ta GA) : DL.Rd K T S E (RZ.tListRng ta) (xListRng GA) := fun σ ρ Hb H n P XP Q w sl h q x =>
  h1 σ ρ Hb H n _ XP _ w sl h (fun ss vs n1 Hb1 H1 s ha p => by
    obtain ⟨i, rfl, h0, hi, p⟩ := p
    obtain ⟨v, rfl, hv⟩ := Args.one (ss := []) ha
    cases hv
    exact ⟨i, rfl, h0, hi, fun l hl => (q.step s).new s.wd hl (.lst (SqL.of upd_same) (by rw [intsV_eq]; exact DnA.ints _)) p⟩) x
end
end DL

/-! exceptions with one attribute as a class of the program; lambdas without free names -/
namespace DL
open L2 PySem PySem.Spec PyProof.Rows
end DL
namespace DL
open L2 PySem PySem.Spec PyProof.Rows
end DL

/-! a, b, c = e1, e2, e3 -/
namespace DL
open L2 PySem PySem.Spec PyProof.Rows
open Evl (Ex ex_l ex_t sz_of)
section
variable {K : PySem.W.Frag} {T : Tb} {S : SA} {E : XK} {Hb H : Hp} {n : Nat}
theorem Args.three {ss : List SV} {vs : List V} {d e f : D} (h : Args K S Hb H n [.d d, .d e, .d f] vs) : ∃ v u t, vs = [v, u, t] ∧ Dn K Hb v d ∧ Dn K Hb u e ∧ Dn K Hb t f := by
  cases h with
  | cons h1 h2 =>
    obtain ⟨u, t, rfl, hu, ht⟩ := Args.two (ss := []) h2
    obtain ⟨_, e, hv⟩ := h1
    cases e
    exact ⟨_, _, _, rfl, hv, hu, ht⟩
end
end DL

/-! set comprehensions over any kind of things, told by what is new and what is added -/
namespace SCo
open L2 PySem PySem.Spec PyProof.Rows PpSet
/-- what stands where a set was just made -/
abbrev newO (w : World) : Obj := { cls := .type "set", dict := none, data := .set #[] 0 (.fresh 0 0 (!w.params.followText "set-order")) }
variable {X : Cx}
/-! ### ints -/
end SCo

/-! set(xs) of a list of ints -/
namespace SCo
open L2 PySem PySem.Spec PyProof.Rows
section
variable {P : Program} {w : World} {A : Around} {E : Value → Shared → Prop} {s : Shared}
end
variable {X : Cx}
theorem vals_ints' : ∀ {ns : List Int} {us : List Value}, Vals (ns.map V.int) us → IntsAre us ns
  | [], _, h => by cases h; exact .nil
  | n :: ns, _, h => by
    cases h with
    | cons r rr =>
      obtain ⟨t, r⟩ := r
      subst r
      exact .cons n t (vals_ints' rr)
end SCo

/-! sorted(xs), xs a list or tuple of ints or of tuples of ints; <, >= of tuples of ints -/
namespace SCo
open L2 PySem PySem.Spec PyProof.Rows PySem.W
section
variable {prog : Program} {w : PySem.World} {A : Around} {E : Value → Shared → Prop} {s : Shared} {β : Type} {bs : List β} {enc : β → PyData} {R : Value → β → Prop}
/-- the first items of tuples, some of which may have none -/
theorem firsts_any : ∀ (vs : List Value) (ds : List PyData) {Q : List (Option Value) → Shared → Prop}, EachIs (fun v d => (∃ as, Reads s.heap v d as) ∧ ∃ l, d = .tuple l) vs ds →
    (∀ fs : List (Option Value), fs.length = ds.length → (∀ (i : Nat) (d : PyData), ds[i]? = some d → ∃ f, fs[i]? = some f ∧ (f.isSome = true ↔ ∃ x r, d = .tuple (x :: r))) → Q fs s) → wpAny (model prog w) A (vs.mapM firstOfTuple') Q E s
  | _, _, _, .nil, h => by rw [List.mapM_nil]; exact wpAny_pure (h [] rfl fun i d e => by simp at e)
  | _, _, Q, .cons (as := vs) (bs := ds) h1 h2, h => by
    obtain ⟨⟨as, r⟩, l, e⟩ := h1
    subst e
    cases r with
    | @tuple a o xs n _ _ ho hc hd hr =>
      rw [List.mapM_cons]
      refine wpAny_bind ?_
      rw [kas_first_eq]
      refine wpAny_bind (Looks.here (show Looks (model prog w) s.heap (typeOf (.ref a)) o.cls from (Looks.ld ho).andThen .now) ?_)
      rw [hc, if_neg (by first | decide | simp)]
      refine wpAny_bind (listItems_at ho hd (wpAny_pure ?_))
      refine wpAny_bind (firsts_any vs ds (Q := fun bs s' => wpAny (model prog w) A (pure (xs[0]? :: bs)) Q E s') h2 fun fs hl hf => wpAny_pure (h _ (by simp [hl]) fun i d ed => ?_))
      cases i with
      | succ i => exact hf i d (by simpa using ed)
      | zero =>
        simp at ed
        subst ed
        have hn : xs.size = l.length := by simpa using SeqAt.ReadsAll.length _ _ _ hr
        refine ⟨_, rfl, ?_⟩
        cases l with
        | nil =>
          have z : xs = #[] := by simpa using hn
          subst z
          simp
        | cons x r =>
          have z : 0 < xs.size := by rw [hn]; simp
          simp [z]
theorem sorts_head {vs : List Value} {ds : List PyData} (e : EachIs (fun v d => ∃ as, Reads s.heap v d as) vs ds) (hal : AllAlike ds) (hT : ∀ d ∈ ds, ∃ l, d = .tuple l) (hd : ds.length < 2 ∨ ∃ x r rest, ds = .tuple (x :: r) :: rest) (hu : ∀ d, d ∈ ds → A.units + d.depth < cLine) :
    SortsAt prog w A s (dataKind s.heap ds) vs := by
  by_cases hne : ∀ d ∈ ds, ∃ x r, d = .tuple (x :: r)
  · exact SortsAt.data e hal (.inl hne) hu
  have e2 : EachIs (fun v d => (∃ as, Reads s.heap v d as) ∧ ∃ l, d = .tuple l) vs ds := EachIs.of_zip e.length fun p hp => ⟨e.zip p hp, hT p.2 (List.of_mem_zip (a := p.1) (b := p.2) hp).2⟩
  refine ⟨fun v hv => ?_, general', fun E' x y a b Q ha hb hq => ?_, fun h2 E' Q hq => ?_⟩
  · obtain ⟨d, hm, as, r⟩ := e.left v hv
    exact ⟨_, dataKind_some hal hm r⟩
  · obtain ⟨d1, as, h1, ra, rfl⟩ := dataKind_inv ha
    obtain ⟨d2, bs, h3, rb, rfl⟩ := dataKind_inv hb
    obtain ⟨l, rfl⟩ := hT d1 h1
    exact oneLt_alike (f := false) (fun z => nomatch z) ra rb (hal _ h1 _ h3) (fun z => nomatch z) (Nat.lt_of_le_of_lt (Nat.add_le_add_left (Nat.min_le_left _ _) _) (hu _ h1)) hq
  · have hl := e.length
    rcases hd with hd | ⟨x, r, rest, rfl⟩
    · omega
    rw [kat_kind_eq, List.mapM_toArray, map_eq_pure_bind]
    refine wpAny_bind (wpAny_bind (firsts_any vs _ e2 fun fs hfl hf => wpAny_pure ?_))
    have h1 : ((fs.toArray).all fun x => x.isSome) = false := by
      rw [Bool.eq_false_iff]
      intro z
      refine hne fun d hm => ?_
      obtain ⟨i, hi, rfl⟩ := List.mem_iff_getElem.mp hm
      obtain ⟨f, g1, g2⟩ := hf i _ (List.getElem?_eq_getElem hi)
      refine g2.mp ?_
      rw [List.all_toArray, List.all_eq_true] at z
      exact z f (List.mem_of_getElem? g1)
    rw [h1]
    obtain ⟨f, g1, g2⟩ := hf 0 _ rfl
    have g3 := g2.mpr ⟨x, r, rfl⟩
    have h2 : ((fs.toArray)[0]?.bind id).isSome = true := by
      rw [List.getElem?_toArray, g1]
      exact g3
    rw [if_neg (by simp), if_pos h2]
    exact wpAny_pure hq
/-- the items of a list or tuple, gathered anew; the heap only grows -/
theorem gathered {Q : List Value → Shared → Prop} (l : Addr) {T : String} {o : Obj} {its : Array Value} {n : Nat} (hT : T = "list" ∨ T = "tuple") (ho : s.heap.get? l = some o) (hc : o.cls = .type T) (hd : o.data = .seq its n) (hz : its.size ≤ sizeLine)
    (fin : ∀ h1 : Heap, (∀ b u, s.heap.get? b = some u → h1.get? b = some u) → s.heap.objs.size ≤ h1.objs.size → Q its.toList { s with heap := h1 }) : wpAny (model prog w) A (collect (.ref l)) Q E s := by
  have at1 : (s.heap.push { cls := .type "list", data := .seq ([] : List Value).toArray }).get? s.heap.objs.size = some { cls := .type "list", data := .seq #[] 0 } := Heap.get?_push_size _ rfl
  have at2 := Heap.get?_update_self (Obj.mapSeq (· ++ its)) at1 rfl
  unfold collect
  refine wpAny_bind (wpAny_runValue (codeAny_builtin F.entry_proto_collect ?_))
  rw [Around.under_plainId F.plain_proto_collect _]
  refine wpAny_bind (m := newList []) (wpAny_newObj_type (wpAny_pure ⟨plainId_quiet F.plain_list_iadd _, codeAny_builtin F.entry_list_iadd ?_⟩))
  rw [Around.under_plainId F.plain_list_iadd _]
  have out : wpAny (model prog w) A (match Value.ref s.heap.objs.size with
      | Value.ref a => do
        match (← load a).data with
          | Data.seq xs _ => pure xs.toList
          | _ => unsupported "internal:collect"
      | _ => unsupported "internal:collect") Q E { s with heap := (s.heap.push { cls := .type "list", data := .seq ([] : List Value).toArray }).update s.heap.objs.size (Obj.mapSeq (· ++ its)) } := by
    show wpAny _ A (load s.heap.objs.size >>= _) _ _ _
    refine wpAny_bind (wpAny_load at2 (wpAny_pure ?_))
    have e : ((#[] : Array Value) ++ its).toList = its.toList := by simp
    show Q ((#[] : Array Value) ++ its).toList _
    rw [e]
    exact fin _ (fun b u q => (Heap.get?_update_other _ _ (Nat.ne_of_gt (Heap.lt_size q))).trans (Heap.get?_push_of_some _ q)) (by rw [Heap.size_update, size_push']; exact Nat.le_succ _)
  refine wpAny_mono (wpAny_extend_seq (hsz := hz) (A := A) (R := fun r s1 => r = .ok (.ret (.ref s.heap.objs.size)) ∧ s1 = { s with heap := (s.heap.push { cls := .type "list", data := .seq ([] : List Value).toArray }).update s.heap.objs.size (Obj.mapSeq (· ++ its)) })
    (s := { s with heap := s.heap.push { cls := .type "list", data := .seq ([] : List Value).toArray } }) _ l _ 0 hT at1 (Heap.get?_push_of_some _ ho) hc hd ⟨rfl, rfl⟩) (fun f s1 h => ?_) (fun e s1 h => absurd h.1 (by simp))
  cases f with
  | done f =>
    obtain ⟨e, rfl⟩ := h
    cases e
    exact out
  | again c => exact ⟨h.1, codeAny_mono h.2 fun r s2 hr => by obtain ⟨rfl, rfl⟩ := hr; exact out⟩
theorem sorted_seqd {l : Addr} {T : String} {o : Obj} {its : Array Value} {n : Nat} {Q : Value → Shared → Prop} (hT : T = "list" ∨ T = "tuple") (ho : s.heap.get? l = some o) (hc : o.cls = .type T) (hd : o.data = .seq its n)
    (e : EachIs R its.toList bs) (er : EachIs (fun v b => Reads s.heap v (enc b) []) its.toList bs) (hal : AllAlike (bs.map enc)) (hk : Sortable (bs.map enc) ∨ (∀ d ∈ bs.map enc, ∃ l, d = .tuple l) ∧ ((bs.map enc).length < 2 ∨ ∃ x r rest, bs.map enc = .tuple (x :: r) :: rest)) (hL : bs.length ≤ sizeLine) (hu : ∀ b, b ∈ bs → A.units + 5 + (enc b).depth < cLine)
    (fin : ∀ (h' : Heap) (p : Addr) (out : List Value) (c : Nat), (∀ b o, s.heap.get? b = some o → h'.get? b = some o) → s.heap.objs.size ≤ p → h'.get? p = some (seqObj "list" out.toArray c) → EachIs R out (bs.mergeSort (dataLe false enc)) → Q (.ref p) { s with heap := h' }) :
    wpAny (model prog w) A (call (.builtin "sorted") [.ref l]) Q E s := by
  have hz : its.size ≤ sizeLine := by have := e.length; rw [Array.length_toList] at this; omega
  refine Calls.call_function_entry kind_sorted plain_sorted entry_sorted (args_sorted1 _) ?_
  unfold Builtin.«sorted»
  refine wpAny_bind (m := checkCount "sorted" 1 1 _) (wpAny_pure ?_)
  refine wpAny_bind (gathered (A := A.in1) l hT ho hc hd hz fun h1 k1 z1 => ?_)
  refine wpAny_bind (wpAny_newList ?_ (by rw [Array.length_toList]; exact hz))
  have at1 : (h1.push (seqObj "list" its.toList.toArray 0)).get? h1.objs.size = some (seqObj "list" its.toList.toArray 0) := Heap.get?_push_size _ rfl
  have er2 : EachIs (fun v b => ∃ as, Reads (sortingHeap (h1.push (seqObj "list" its.toList.toArray 0)) h1.objs.size its.toList) v (enc b) as) its.toList bs := er.mono fun v b r => ⟨[], PyProof.Rows.Reads.keeps (fun b o q => sortingHeap_old (Nat.ne_of_lt (Heap.lt_size (k1 b o q))) (Heap.get?_push_of_some _ (k1 b o q))) r⟩
  have hu2 : ∀ d, d ∈ bs.map enc → A.in1.in1.units + d.depth < cLine := fun d hd => by
    obtain ⟨b, hb, rfl⟩ := List.mem_map.mp hd
    have := hu b hb
    simp only [Around.in1] at this ⊢
    omega
  have S : SortsAt prog w A.in1.in1 { s with heap := sortingHeap (h1.push (seqObj "list" its.toList.toArray 0)) h1.objs.size its.toList } (dataKind (sortingHeap (h1.push (seqObj "list" its.toList.toArray 0)) h1.objs.size its.toList) (bs.map enc)) its.toList := by
    rcases hk with hk | ⟨hk1, hk2⟩
    · exact SortsAt.data (s := { s with heap := sortingHeap (h1.push (seqObj "list" its.toList.toArray 0)) h1.objs.size its.toList }) (each_map (R := fun v d => ∃ as, Reads (sortingHeap (h1.push (seqObj "list" its.toList.toArray 0)) h1.objs.size its.toList) v d as) enc er2) hal hk hu2
    · exact sorts_head (s := { s with heap := sortingHeap (h1.push (seqObj "list" its.toList.toArray 0)) h1.objs.size its.toList }) (each_map (R := fun v d => ∃ as, Reads (sortingHeap (h1.push (seqObj "list" its.toList.toArray 0)) h1.objs.size its.toList) v d as) enc er2) hal hk1 hk2 hu2
  refine wpAny_bind (wpAny_holding (wpAny_call_entry slot_list_sort ⟨_, at1, rfl⟩ entry_list_sort (list_sort_vals (s := { s with heap := h1.push (seqObj "list" its.toList.toArray 0) }) at1 S (by rw [Array.length_toList]; exact hz) ⟨.none, rfl, ?_⟩) (args_list_sort _)))
  have h3 := sortVals_data false e er2 hal
  obtain ⟨c, hc2⟩ := sortedHeap_at (vs := its.toList) (out := (sortVals (dataKind (sortingHeap (h1.push (seqObj "list" its.toList.toArray 0)) h1.objs.size its.toList) (bs.map enc)) false its.toList its.toList).toArray) at1
  refine wpAny_pure ⟨_, rfl, fin _ h1.objs.size _ c (fun b u q => ?_) z1 hc2 h3⟩
  · have q1 := k1 b u q
    have lt := Heap.lt_size q1
    rw [sortedHeap_old (Nat.ne_of_lt lt) (by rw [size_push']; exact Nat.lt_succ_of_lt lt)]
    exact Heap.get?_push_of_some _ q1
end
end SCo

/-! as data: sorted of tuples of ints, < and >= of these -/
namespace SCo
open L2 PySem PySem.Spec PyProof.Rows PySem.W
def ltI (a b : List Int) : Bool := decide (a < b)
theorem lexLt_eq : ∀ {a b : List Int}, HT.lexLt a b = ltI a b
  | [], [] => by simp [HT.lexLt, ltI]
  | [], _ :: _ => by simp [HT.lexLt, ltI]
  | _ :: _, [] => by simp [HT.lexLt, ltI]
  | x :: a, y :: b => by
    have ih := lexLt_eq (a := a) (b := b)
    unfold ltI at ih ⊢
    rw [HT.lexLt, ih]
    by_cases h : x = y
    · subst h
      rw [if_pos rfl, decide_eq_decide, List.cons_lt_cons_iff]
      constructor
      · exact fun z => .inr ⟨rfl, z⟩
      · rintro (z | z)
        · exact absurd z (by omega)
        · exact z.2
    · rw [if_neg h, decide_eq_decide, List.cons_lt_cons_iff]
      constructor
      · exact fun z => .inl z
      · rintro (z | z)
        · exact z
        · exact absurd z.1 h
def encT (b : V × List Int) : PyData := .tuple (b.2.map .int)
theorem dataLt_tup {a b : List Int} : dataLt (.tuple (a.map .int)) (.tuple (b.map .int)) = ltI a b := dataLt_ints a b
def leT (b c : V × List Int) : Bool := !ltI c.2 b.2
theorem le_encT : dataLe false encT = leT := by
  funext b c
  rw [dataLe_eq]
  show (!dataLt (encT c) (encT b)) = _
  unfold encT leT
  rw [dataLt_tup]
section
variable {X : Cx}
/-- the first of two and more has an item -/
def HdOk (nss : List (List Int)) : Prop := nss.length < 2 ∨ ∃ ns rest, nss = ns :: rest ∧ ns ≠ []
/-- xs beside what its items are -/
def rSortT (K : PySem.W.Frag) : List V → Hp → VK → Prop := fun vs H Q => ∃ (a : Addr) (bs : List (V × List Int)), vs = [.ref a] ∧ (SqL K H a (bs.map (·.1)) ∨ SqT K H a (bs.map (·.1))) ∧ (∀ b ∈ bs, TupI K H b.1 b.2) ∧ HdOk (bs.map (·.2)) ∧
  ∀ p, H p = none → Q (.ref p) (upd H p (.lst ((bs.mergeSort leT).map (·.1))))
theorem vals_each : ∀ {α : Type} {bs : List (V × α)} {its : List Value}, Vals (bs.map (·.1)) its → EachIs (fun v b => RelV b.1 v ∧ b ∈ bs) its bs
  | _, [], _, h => by cases h; exact .nil
  | _, b :: bs, _, h => by
    cases h with
    | cons r rr => exact .cons ⟨r, .head _⟩ ((vals_each rr).mono fun v c q => ⟨q.1, .tail _ q.2⟩)
theorem each_vals : ∀ {α : Type} {bs cs : List (V × α)} {its : List Value}, EachIs (fun v b => RelV b.1 v ∧ b ∈ cs) its bs → Vals (bs.map (·.1)) its
  | _, [], _, _, h => by cases h; exact .nil
  | _, b :: bs, _, _, h => by
    cases h with
    | cons r rr => exact .cons r.1 (each_vals rr)
theorem reads_ints {h : Heap} : ∀ {its : List Value} {ns : List Int}, IntsAre its ns → ReadsAll h its (ns.map .int) []
  | _, _, .nil => .nil
  | _, _, .cons n t r => .cons (as := []) (bs := []) (.int n t) (reads_ints r)
theorem alikeT {bs : List (V × List Int)} : AllAlike (bs.map encT) := fun d hd e he => by
  obtain ⟨b, _, rfl⟩ := List.mem_map.mp hd
  obtain ⟨c, _, rfl⟩ := List.mem_map.mp he
  exact alike_ints b.2 c.2
theorem cr_sortT {k0 : Nat} (hr : Room k0 X.A) : CallR X (.builtin "sorted") (rSortT X.K) := by
  intro pins s σ H vs us Q I r h
  obtain ⟨a, bs, rfl, hs, hb, hh, q⟩ := h
  rw [Vals.ref1 r]
  have hk : (∀ d ∈ bs.map encT, ∃ l, d = .tuple l) ∧ ((bs.map encT).length < 2 ∨ ∃ x r rest, bs.map encT = .tuple (x :: r) :: rest) := by
    refine ⟨fun d hd => ?_, ?_⟩
    · obtain ⟨b, _, rfl⟩ := List.mem_map.mp hd
      exact ⟨_, rfl⟩
    · rcases hh with hh | ⟨ns, rest, e, hne⟩
      · exact .inl (by simpa using hh)
      · cases bs with
        | nil => cases e
        | cons b bs =>
          have e1 : b.2 = ns := (List.cons.inj e).1
          cases h : b.2 with
          | nil => exact absurd (e1.symm.trans h) hne
          | cons m ms =>
            refine .inr ⟨.int m, ms.map .int, bs.map encT, ?_⟩
            show encT b :: bs.map encT = _
            unfold encT
            rw [h]
            rfl
  have hu : ∀ b, b ∈ bs → X.A.units + 5 + (encT b).depth < cLine := fun b _ => by
    have e : (encT b).depth ≤ 1 := by
      unfold encT
      rw [PyData.depth, depth_ints]
      exact Nat.le_refl 1
    have := hr.un
    omega
  have go : ∀ {T : String} {o : Obj} {its : List Value} {n : Nat}, (T = "list" ∨ T = "tuple") → Vals (bs.map (·.1)) its → (bs.map (·.1)).length ≤ sizeLine → s.heap.get? a = some o → o.cls = .type T → o.data = .seq its.toArray n → wpAny (model X.prog X.w) X.A (call (.builtin "sorted") [.ref a]) (EP X pins σ Q) X.xe s := by
    intro T o its n hT rv hz ho hc hd
    refine sorted_seqd (bs := bs) (enc := encT) (R := fun v b => RelV b.1 v ∧ b ∈ bs) (its := its.toArray) hT ho hc hd (vals_each rv) ((vals_each rv).mono fun v b hm => ?_) alikeT (.inr hk) (by simpa using hz) hu fun h' p out c kp hp hg he => ?_
    · obtain ⟨t, e, ht⟩ := hb b hm.2
      have rv2 := hm.1
      rw [e] at rv2
      cases rv2
      obtain ⟨its2, r2, ⟨o2, g1, g2, n2, g3⟩, _⟩ := I.tuple ht
      exact .tuple g1 g2 g3 (reads_ints (vals_ints' r2))
    · rw [le_encT] at he
      have hl : ((bs.mergeSort leT).map (·.1)).length ≤ sizeLine := by rw [List.length_map, List.length_mergeSort]; simpa using hz
      exact ⟨.ref p, _, I.laid (t' := s.toks) (o := .lst ((bs.mergeSort leT).map (·.1))) kp hp ⟨hl, out, c, each_vals he, hg⟩, rfl, q p (I.hok.fresh hp)⟩
  rcases hs with hs | hs
  · obtain ⟨its, rv, hl, hz⟩ := I.list hs
    obtain ⟨o, ho, hc, n, hd⟩ := hl.isList
    exact go (.inl rfl) rv hz ho hc hd
  · obtain ⟨its, rv, ⟨o, ho, hc, n, hd⟩, hz⟩ := I.tuple hs
    exact go (.inr rfl) rv hz ho hc hd
/-! ### < and >= -/
def rLtU (K : PySem.W.Frag) : R2 := fun x y H Q => (rI0 fun i j => .bl (decide (i < j))) x y H Q ∨ rLtT K x y H Q
theorem op_ltU (hu : X.A.units < cLine) : OpR X (compareOp .Lt) (rLtU X.K) := fun pins s σ H x y u v Q I rx ry h => h.elim (op_lt pins s σ H x y u v Q I rx ry) (op_ltT hu pins s σ H x y u v Q I rx ry)
end
end SCo
namespace DL
open L2 PySem PySem.Spec PyProof.Rows SCo
open Evl (Ex ex_l ex_t sz_of)
section
variable {K : PySem.W.Frag}
def tupI (ns : List Int) : D := .tup (ns.map D.int)
def sortL (nss : List (List Int)) : List (List Int) := nss.mergeSort fun a b => !ltI b a
def ltUD : D → D → (D → Prop) → Prop
  | .int i, .int j, k => k (.bl (decide (i < j)))
  | .tup xs, .tup ys, k => ∃ ns ms : List Int, xs = ns.map D.int ∧ ys = ms.map D.int ∧ k (.bl (ltI ns ms))
  | _, _, _ => False
theorem o2_ltU : Op2 K (rLtU K) ltUD := by
  intro T S x y a b Hb H n P Q w hx hy h q
  cases hx with
  | int i =>
    cases hy with
    | int j => exact .inl ⟨i, j, rfl, rfl, q.now w (.bl _) h⟩
    | _ => exact h.elim
  | tup g1 g2 =>
    cases hy with
    | tup g3 g4 =>
      obtain ⟨ns, ms, rfl, rfl, h⟩ := h
      have e1 := ints_of g2
      have e2 := ints_of g4
      subst e1 e2
      exact .inr ⟨_, _, ns, ms, rfl, rfl, ex_t w.ex g1, ex_t w.ex g3, q.now w (.bl _) (by rw [lexLt_eq]; exact h)⟩
    | _ => exact h.elim
  | _ => exact h.elim
def sortTD : D → (D → Prop) → Prop := fun d k => match d with
  | .lst xs => ∃ nss : List (List Int), xs = nss.map tupI ∧ HdOk nss ∧ k (.lst ((sortL nss).map tupI))
  | .tup xs => ∃ nss : List (List Int), xs = nss.map tupI ∧ HdOk nss ∧ k (.lst ((sortL nss).map tupI))
  | _ => False
theorem tups_of {H : Hp} : ∀ {nss : List (List Int)} {vs : List V}, DnA K H vs (nss.map tupI) → ∃ bs : List (V × List Int), vs = bs.map (·.1) ∧ nss = bs.map (·.2) ∧ ∀ b ∈ bs, TupI K H b.1 b.2 ∧ Dn K H b.1 (tupI b.2)
  | [], _, h => by cases h; exact ⟨[], rfl, rfl, fun b hb => by cases hb⟩
  | ns :: nss, _, h => by
    cases h with
    | @cons v d vs ds h1 h2 =>
      obtain ⟨bs, rfl, rfl, hb⟩ := tups_of h2
      refine ⟨(v, ns) :: bs, rfl, rfl, fun b hm => ?_⟩
      rcases List.mem_cons.mp hm with rfl | hm
      · refine ⟨?_, h1⟩
        have h1' : Dn K H v (.tup (ns.map D.int)) := h1
        cases h1' with
        | tup g1 g2 =>
          have e := ints_of g2
          subst e
          exact ⟨_, rfl, g1⟩
      · exact hb b hm
theorem DnA.of_pairs {H : Hp} : ∀ {bs : List (V × List Int)}, (∀ b ∈ bs, Dn K H b.1 (tupI b.2)) → DnA K H (bs.map (·.1)) ((bs.map (·.2)).map tupI)
  | [], _ => .nil
  | b :: bs, h => .cons (h b (.head _)) (DnA.of_pairs fun c hc => h c (.tail _ hc))
theorem sort_fst {bs : List (V × List Int)} : (bs.mergeSort leT).map (·.2) = sortL (bs.map (·.2)) := PySem.W.sort_maps (r := leT) (s := fun a b => !ltI b a) (fun b : V × List Int => b.2) fun _ _ _ _ => rfl
theorem cal_sortT : Cal K (rSortT K) (one1 sortTD) := by
  refine cal_one ?_
  intro T S v d Hb H n P Q w hv h q
  have fin : ∀ {a : Addr} {bs : List (V × List Int)}, (∀ b ∈ bs, TupI K Hb b.1 b.2 ∧ Dn K Hb b.1 (tupI b.2)) → HdOk (bs.map (·.2)) → (SqL K H a (bs.map (·.1)) ∨ SqT K H a (bs.map (·.1))) → P (.lst ((sortL (bs.map (·.2))).map tupI)) n → rSortT K [.ref a] H Q := by
    intro a bs hb hh hs hp
    refine ⟨a, bs, rfl, hs, fun b hm => ?_, hh, fun p hp' => ?_⟩
    · obtain ⟨⟨t, e, ht⟩, _⟩ := hb b hm
      exact ⟨t, e, ex_t w.ex ht⟩
    · have hd : ∀ b ∈ bs.mergeSort leT, Dn K Hb b.1 (tupI b.2) := fun b hm => (hb b ((List.mergeSort_perm bs leT).mem_iff.mp hm)).2
      refine q.new w hp' (.lst (SqL.of upd_same) ?_) hp
      rw [← sort_fst]
      exact (DnA.of_pairs hd).up (Ex.new (free_of w.ex hp'))
  cases hv with
  | @lst a vs ds g1 g2 =>
    obtain ⟨nss, rfl, hne, h⟩ := h
    obtain ⟨bs, rfl, rfl, hb⟩ := tups_of g2
    exact fin hb hne (.inl (ex_l w.ex g1)) h
  | @tup a vs ds g1 g2 =>
    obtain ⟨nss, rfl, hne, h⟩ := h
    obtain ⟨bs, rfl, rfl, hb⟩ := tups_of g2
    exact fin hb hne (.inr (ex_t w.ex g1)) h
  | _ => exact h.elim
end
end DL

/-! min, max of a pair; in of tuples of tuples; xs[::-1]; pop(); extend; dicts of one's own by any key -/
namespace SCo
open L2 PySem PySem.Spec PyProof.Rows PySem.W
section
variable {X : Cx}
theorem alike2 (i j : Int) : PySem.W.AlikeAll [.int i, .int j] := by
  have h : ∀ x ∈ [PyData.int i, PyData.int j], ∃ k, x = .int k := by simp
  refine ⟨fun x hx y hy => ?_, fun x hx => ?_⟩
  · obtain ⟨a, rfl⟩ := h x hx
    obtain ⟨b, rfl⟩ := h y hy
    rfl
  · obtain ⟨a, rfl⟩ := h x hx
    exact fun z => nomatch z
def rPair (K : PySem.W.Frag) (f : Int → Int → Int) : List V → Hp → VK → Prop := fun vs H Q => ∃ (a : Addr) (i j : Int), vs = [.ref a] ∧ SqT K H a [.int i, .int j] ∧ Q (.int (f i j)) H
theorem cr_minT {k0 : Nat} (hr : Room k0 X.A) (calm : X.calm = true := by rfl) : CallR X (.builtin "min") (rPair X.K min) := by
  intro pins s σ H vs us Q I r h
  obtain ⟨a, i, j, rfl, hs, q⟩ := h
  rw [Vals.ref1 r]
  obtain ⟨its, rv, hl, hz⟩ := I.tuple hs
  have rd := reads_ints (h := s.heap) (vals_ints' (ns := [i, j]) rv)
  refine PySem.W.min_tuple_data (xs := [.int j]) (I.ok.hd calm) hl (by simpa using rd) (alike2 i j) (by have := hr.un; show X.A.units + 1 + 0 < cLine; omega) fun k v h' tk bs _ hv kp => ?_
  have e : PySem.W.minD (.int i) [.int j] = .int (min i j) := PySem.W.minD_ints i [j]
  rw [e] at hv
  cases hv with
  | int _ t => exact ⟨.int (min i j), H, I.un (t' := tk) (Un.kept kp) (I.hok.kept kp), ⟨_, rfl⟩, q⟩
theorem cr_maxT {k0 : Nat} (hr : Room k0 X.A) (calm : X.calm = true := by rfl) : CallR X (.builtin "max") (rPair X.K max) := by
  intro pins s σ H vs us Q I r h
  obtain ⟨a, i, j, rfl, hs, q⟩ := h
  rw [Vals.ref1 r]
  obtain ⟨its, rv, hl, hz⟩ := I.tuple hs
  have rd := reads_ints (h := s.heap) (vals_ints' (ns := [i, j]) rv)
  refine PySem.W.max_tuple_data (xs := [.int j]) (I.ok.hd calm) hl (by simpa using rd) (alike2 i j) (by have := hr.un; show X.A.units + 1 + 0 < cLine; omega) fun k v h' tk bs _ hv kp => ?_
  have e : PySem.W.maxD (.int i) [.int j] = .int (max i j) := PySem.W.maxD_ints i [j]
  rw [e] at hv
  cases hv with
  | int _ t => exact ⟨.int (max i j), H, I.un (t' := tk) (Un.kept kp) (I.hok.kept kp), ⟨_, rfl⟩, q⟩
end
end SCo
namespace DL
open L2 PySem PySem.Spec PyProof.Rows SCo
open Evl (Ex ex_l ex_t sz_of)
section
variable {K : PySem.W.Frag} {T : Tb} {S : SA} {E : XK} {te tk : TE} {FE FK : DT}
def pairD (f : Int → Int → Int) : D → (D → Prop) → Prop := fun d k => match d with
  | .tup [.int i, .int j] => k (.int (f i j))
  | _ => False
theorem cal_pair {f : Int → Int → Int} : Cal K (rPair K f) (one1 (pairD f)) := by
  refine cal_one ?_
  intro T S v d Hb H n P Q w hv h q
  unfold pairD at h
  split at h
  · cases hv with
    | @tup a vs ds g1 g2 =>
      cases g2 with
      | cons h1 h2 =>
        cases h1
        cases h2 with
        | cons h3 h4 =>
          cases h3
          cases h4
          exact ⟨a, _, _, rfl, ex_t w.ex g1, q.now w (.int _) h⟩
  · exact h.elim
/-! ### xs[::-1] -/
/-! ### y = xs.pop() -/
def xsSetPop0 (i j : Nat) : DTS := fun DD ρ n XP => slotO ρ j fun xs => ∃ (ys : List D) (y : D), xs = ys ++ [y] ∧ DD.nx ((ρ.set j (.ol ys)).set i (.d y)) n
theorem DnA.last : ∀ {vs : List V} {ds : List D} {d : D} {H : Hp}, DnA K H vs (ds ++ [d]) → ∃ us u, vs = us ++ [u] ∧ DnA K H us ds ∧ Dn K H u d
  | _, [], _, _, h => by
    cases h with
    | cons h1 h2 =>
      cases h2
      exact ⟨[], _, rfl, .nil, h1⟩
  | _, e :: ds, _, _, h => by
    cases h with
    | cons h1 h2 =>
      obtain ⟨us, u, rfl, h3, h4⟩ := DnA.last h2
      exact ⟨_ :: us, u, rfl, .cons h1 h3, h4⟩
theorem rds_setPop0 {i j : Nat} : RdS K T S E (tAsg (tBM0 K "list" rPop (tVar j)) (gName i)) (xsSetPop0 i j) := fun σ ρ Hb0 H0 n0 Hb H n DD XP D a sl h q x => by
  obtain ⟨xs, p, vs, e, es, e3, e4, e5, e6, e8, e7, h⟩ := sl.sl.own h
  obtain ⟨ys, y, rfl, pp⟩ := h
  obtain ⟨us, u, rfl, h7, hu⟩ := DnA.last e7
  refine ⟨.ref p, es, .inl ⟨rfl, _, SqL.of e3⟩, ?_⟩
  refine ⟨p, _, u, rfl, rfl, e3, by simp, ?_⟩
  have z := own_stmt (us := us) (ys := ys) (DD := { nx := fun ρ' n' => DD.nx (ρ'.set i (.d y)) n', rt := DD.rt, bk := DD.bk, ct := DD.ct }) (D := { D with nx := fun σ' H' => D.nx (σ'.set i (some u)) H' }) a sl ⟨fun ρ' σ' n' Hb' H' e' s' sl' p' => ?_, q.rt, q.bk, q.ct⟩ e es e3 e4 e5 e6 e8 h7 pp
  · rw [List.dropLast_concat]
    exact z
  · exact q.nx _ _ n' Hb' H' e' s' (sl'.set (hu.up e')) p'
/-! ### xs.extend([..]) -/
/-! ### k not in x, x[k] = e, x a dict of one's own -/
def keyIn (k : Key) (ks : List Key) : Bool := ks.any fun x => decide (x = k)
theorem keyIn_mem {k : Key} {ks : List Key} : keyIn k ks = true ↔ k ∈ ks := by
  unfold keyIn
  rw [List.any_eq_true]
  constructor
  · rintro ⟨x, h1, h2⟩
    rw [← of_decide_eq_true h2]
    exact h1
  · exact fun h => ⟨k, h, by simp⟩
def xtNotInE (i : Nat) (F : DT) : DTT := fun ρ n P XP => F ρ n (fun d n1 => ∃ k, keyD d = some k ∧ slotE ρ i fun ks _ => P (!keyIn k ks) n1) XP
theorem val_some {kvs : List (Key × V)} {k : Key} : (valV kvs k).isSome = keyIn k (kvs.map (·.1)) := by
  unfold valV
  cases f : kvs.find? fun kv => decide (kv.1 = k) with
  | none =>
    have h := List.find?_eq_none.mp f
    symm
    show keyIn k (kvs.map (·.1)) = false
    rw [Bool.eq_false_iff]
    intro hm
    obtain ⟨kv, h1, h2⟩ := List.mem_map.mp (keyIn_mem.mp hm)
    exact h kv h1 (by simpa using h2)
  | some kv =>
    have h1 := List.mem_of_find?_eq_some f
    have h2 := List.find?_some f
    symm
    exact keyIn_mem.mpr (List.mem_map.mpr ⟨kv, h1, by simpa using h2⟩)
theorem rdt_notInE {i : Nat} (h1 : DL.Rd K T S E te FE) : RdT K T S E (tB (tDNotIn te (tVar i))) (xtNotInE i FE) := fun σ ρ Hb H n P XP Q w sl h q x => by
  refine h1 σ ρ Hb H n _ XP _ w sl h (fun d v n1 Hb1 H1 s hd pp => ?_) x
  obtain ⟨k, ek, pp⟩ := pp
  obtain ⟨ks, ds, p, kvs, e, es, e3, e4, e5, e6, e8, e7, e9, pp⟩ := (sl.step s).ownE pp
  refine ⟨.ref p, es, p, valV kvs k, rfl, .inl ⟨kvs, k, .inl e3, key_rel hd ek, rfl⟩, !(valV kvs k).isSome, rfl, ?_⟩
  rw [val_some, e7]
  exact q _ _ _ _ s pp
def xsPutK (i : Nat) (FK F : DT) : DTS := fun DD ρ n XP => noOd (ρ.set i .no) = true ∧ (∃ ks ds, ρ[i]? = some (.od ks ds)) ∧ F ρ n (fun d n1 => FK ρ n1 (fun kd n2 => ∃ k, keyD kd = some k ∧ slotE ρ i fun ks ds => k ∉ ks ∧ ks.length ≤ 100 ∧ DD.nx (ρ.set i (.od (ks ++ [k]) (ds ++ [d]))) n2) XP) XP
theorem rds_putK {i : Nat} (hk : DL.Rd K T S E tk FK) (h1 : DL.Rd K T S E te FE) : RdS K T S E (sDPut (tVar i) tk te) (xsPutK i FK FE) := fun σ ρ Hb0 H0 n0 Hb H n DD XP D a sl h q x => by
  obtain ⟨no, ⟨ks0, ds0, e0⟩, h⟩ := h
  refine h1 σ ρ Hb H n _ XP _ a.wd sl.sl h (fun d v n1 Hb1 H1 s1 hd pp => ?_) (x.step a)
  obtain ⟨_, _, p0, _, _, es0, _⟩ := (sl.step s1).sl.ownE (k := fun _ _ => True) (i := i) (by unfold slotE; rw [e0]; trivial)
  refine ⟨.ref p0, es0, ?_⟩
  refine hk σ ρ Hb1 H1 n1 _ XP _ s1.wd (sl.step s1).sl pp (fun kd kv n' Hb' H' s2 hkd pp => ?_) ((x.step a).step s1)
  obtain ⟨k, ek, pp⟩ := pp
  have s := s1.trans s2
  have sl2 := sl.step s
  obtain ⟨ks, ds, p, kvs, e, es, e3, e4, e5, e6, e8, e7, e9, hk, hl, pp⟩ := sl2.sl.ownE pp
  have ep0 : p0 = p := by
    rw [es0] at es
    cases es
    rfl
  subst ep0
  have f0 : Fresh H0 p0 := sl.fr i _ p0 e rfl es
  have ep : putK kvs k v = kvs ++ [(k, v)] := by
    unfold putK
    refine if_neg (fun y => ?_)
    obtain ⟨kv2, hm, hd2⟩ := List.any_eq_true.mp y
    have e0 : kv2.1 = k := of_decide_eq_true hd2
    exact hk (by rw [← e7, ← e0]; exact List.mem_map.mpr ⟨kv2, hm, rfl⟩)
  have hd' := hd.up s2.ex
  refine ⟨p0, upd H' p0 (.dK (kvs ++ [(k, v)])), rfl, ?_, ?_⟩
  · refine .inl ⟨kvs, k, e3, key_rel hkd ek, Evl.sz_lt ?_, by rw [ep]⟩
    have e9l : kvs.length = ks.length := by rw [← e7, List.length_map]
    omega
  · have s3 := (a.trans s).put (u := .dK (kvs ++ [(k, v)])) f0 e4 e3 (fun _ z => by cases z) (fun _ z => by cases z) (fun _ z => by cases z) e5 e6
    have b1 : Slots K S Hb' H' n' (ρ.set i .no) (σ.set i (some (.ref p0))) := sl2.sl.forget
    have b2 := b1.putE (us := kvs ++ [(k, v)]) e3 e5 e6 no
    have b3 := b2.setX (i := i) (s := .od (ks ++ [k]) (ds ++ [d])) (o := some (.ref p0)) ⟨p0, _, rfl, upd_same, e4, e5, e6, e8, by rw [List.map_append, e7]; rfl, by rw [List.map_append]; exact e9.app (.one hd')⟩ (fun _ z => by cases z)
    rw [set_set, set_set] at b3
    have hσ : σ.set i (some (V.ref p0)) = σ := set_get es
    have b4 := sl2.fr.setF (i := i) (s := .od (ks ++ [k]) (ds ++ [d])) f0 sl.sl.len
    rw [hσ] at b3 b4
    exact q.nx _ _ n' Hb' _ s.ex s3 ⟨b3, b4⟩ pp
end
end DL

/-! facts of itertools.combinations -/
namespace RZ
open PySem PySem.Spec PyProof.Rows L2
namespace Cb
theorem owner_comb : Manifest.owners.lookup (String.ofList (String.toList "itertools.combinations").reverse.reverse) = some Manifest.sig_itertools_combinations := by kernel_rfl
theorem slot_comb_init : Slot "itertools.combinations" "__init__" "object.__init__" :=
  .of (owner := "object") (n := "__init__") (by rw [typeLookup_type, builtinLookup_eq_fast]; kernel_rfl) (by decide +kernel) (by decide +kernel) (by decide +kernel)
    (by first | exact .inl (by decide +kernel) | exact .inr (by decide +kernel)) (by rw [isSubtype_type]; kernel_rfl)
theorem slot_comb_iter : Slot "itertools.combinations" "__iter__" "itertools.combinations.__iter__" :=
  .of (owner := "itertools.combinations") (n := "__iter__") (by rw [typeLookup_type, builtinLookup_eq_fast]; kernel_rfl) (by decide +kernel) (by decide +kernel) (by decide +kernel)
    (by first | exact .inl (by decide +kernel) | exact .inr (by decide +kernel)) (by rw [isSubtype_type]; kernel_rfl)
theorem slot_comb_next : Slot "itertools.combinations" "__next__" "itertools.combinations.__next__" :=
  .of (owner := "itertools.combinations") (n := "__next__") (by rw [typeLookup_type, builtinLookup_eq_fast]; kernel_rfl) (by decide +kernel) (by decide +kernel) (by decide +kernel)
    (by first | exact .inl (by decide +kernel) | exact .inr (by decide +kernel)) (by rw [isSubtype_type]; kernel_rfl)
theorem entry_comb_next : entryFor table "itertools.combinations.__next__" = some Builtin.«itertools.combinations.__next__» := entryFor_of_tree (by kernel_rfl)
theorem entry_comb_new : entryFor table "itertools.combinations.__new__" = some Builtin.«itertools.combinations.__new__» := entryFor_of_tree (by kernel_rfl)
theorem entry_comb_iter : entryFor table "itertools.combinations.__iter__" = some Builtin.«dict_keyiterator.__iter__» :=
  entryFor_alias (id' := "dict_keyiterator.__iter__") (by kernel_rfl) (by first | rfl | decide +kernel | (unfold String.splitOn; simp +decide [String.splitOnAux])) (by decide +kernel) (by kernel_rfl)
theorem args_comb_next (a : Value) : argsOk "itertools.combinations.__next__" ⟨[a], []⟩ := by
  unfold argsOk; rw [signature?_of (id := "itertools.combinations.__next__") (n := ['_', '_', 't', 'x', 'e', 'n', '_', '_']) (o := (String.toList "itertools.combinations").reverse) (by kernel_rfl) owner_comb]; kernel_rfl
theorem args_comb_iter (a : Value) : argsOk "itertools.combinations.__iter__" ⟨[a], []⟩ := by
  unfold argsOk; rw [signature?_of (id := "itertools.combinations.__iter__") (n := ['_', '_', 'r', 'e', 't', 'i', '_', '_']) (o := (String.toList "itertools.combinations").reverse) (by kernel_rfl) owner_comb]; kernel_rfl
theorem mro_comb : mroOf (.type "itertools.combinations") = pure [.type "itertools.combinations", .type "object"] := by rw [mroOf_type]; kernel_rfl
theorem lookup_comb_new : typeLookup (.type "itertools.combinations") "__new__" = pure (some (.builtin "itertools.combinations.__new__")) := by rw [typeLookup_type, builtinLookup_eq_fast]; kernel_rfl
theorem called_comb : TypeCalled "itertools.combinations" "itertools.combinations.__new__" "object.__init__" :=
  ⟨by decide +kernel, by decide +kernel, ⟨_, _, mro_comb⟩, madeBy_type mro_comb lookup_comb_new (by decide +kernel), by decide +kernel, by rw [isSubtype_type]; kernel_rfl, slot_comb_init⟩
theorem typeCall_comb (a b : Value) : checkTypeCall "itertools.combinations" ⟨[a, b], []⟩ = pure () := by kernel_rfl
theorem newCall_comb (a b : Value) : checkBuiltinCall "itertools.combinations.__new__" ⟨[.type "itertools.combinations", a, b], []⟩ = pure () := by kernel_rfl
theorem sub_comb : isSubtype (.type "itertools.combinations") (.type "itertools.combinations") = pure true := by rw [isSubtype_type]; kernel_rfl
end Cb
end RZ

namespace RZ
open PySem PySem.Spec PyProof.Rows L2
open AutoSeq1 (wpAny_loadPart')
def tupObj (items : Array Value) : Obj := { cls := .type "tuple", data := .seq items }
section
variable {prog : Program} {w : World} {A : Around} {E : Value → Shared → Prop} {s : Shared}
end
end RZ

namespace RZ
open PySem PySem.Spec PyProof.Rows L2
open AutoSeq1 (wpAny_loadPart')
section
variable {prog : Program} {w : World} {A : Around} {E : Value → Shared → Prop} {s : Shared} {c p : Addr} {items : Array Value}
theorem it_stop {s : Shared} {Q : Fin → Shared → Prop} {E' : Value → Shared → Prop} (hh : A.handled = none)
    (hE : ∀ h' a o, (∀ b o, s.heap.get? b = some o → h'.get? b = some o) → h'.get? a = some o → o.cls = .type "StopIteration" → E' (.ref a) { s with heap := h' }) : wpAny (model prog w) A (Builtin.Itertools.itStop : Sem Fin) Q E' s := by
  unfold Builtin.Itertools.itStop
  refine wpAny_bind ?_
  simp only [newExc, newTuple]
  refine wpAny_bind (wpAny_newObj_type ?_ (by size_fits))
  refine wpAny_bind (m := firstArgMember _ _) (wpAny_of_eq (a := Value.none) (by first | rfl | (simp only [firstArgMember]; rfl)) ?_)
  refine wpAny_newObj_type ?_ (by size_fits)
  simp only [raiseNew]
  refine wpAny_bind (wpAny_handled ?_)
  rw [hh]
  refine wpAny_bind (wpAny_pure (wpAny_throw ?_))
  exact hE _ _ _ (fun b o q => Heap.get?_push_of_some _ (Heap.get?_push_of_some _ q)) (Heap.get?_push_size _ rfl) rfl
end
end RZ

/-! combinations(range(n), 2): as a loop's iterator -/
namespace DL
/-- all pairs of items, the earlier one first -/
def pairsL {α : Type} : List α → List (α × α)
  | [] => []
  | x :: xs => xs.map (fun y => (x, y)) ++ pairsL xs
end DL
namespace RZ
open PySem PySem.Spec PyProof.Rows L2
end RZ
namespace DL
open L2 PySem PySem.Spec PyProof.Rows
open Evl (Ex ex_l ex_t sz_of)
section
variable {K : PySem.W.Frag} {T : Tb} {S : SA} {E : XK} {Hb H Hb1 H1 : Hp} {n n1 : Nat}
end
end DL

/-! dicts of one's own whose keys are tuples of ints: setdefault, sorted(d); sorted(set(xs)) of pairs; xs.index(pair) -/
namespace SCo
open L2 PySem PySem.Spec PyProof.Rows
section
variable {X : Cx} {pins : List (Addr × Obj)} {σ : L2.St} {H : Hp} {s : Shared} {a b : Addr} {r : Value} {v d : V} {A : Around} {E : Value → Shared → Prop}
end
section
variable {X : Cx} {o e f : Expr} {td ty tx : TE} {apos cpos : Pos}
end
section
variable {prog : Program} {w : World} {A : Around} {E : Value → Shared → Prop} {s : Shared}
end
section
variable {prog : Program} {w : World} {A : Around} {E : Value → Shared → Prop} {s : Shared} {T : String} {r d : Addr} {n : Nat} {P : Nat → Value → Prop} {OK : Heap → Prop}
end
def unl (k : List Key) : List Int := k.map fun | .inl i => i | .inr _ => 0
theorem unl_inl (ns : List Int) : unl (ns.map Sum.inl) = ns := by
  unfold unl
  rw [List.map_map]
  exact List.map_id' ns
section
variable {X : Cx}
end
end SCo

/-! dicts of one's own by tuples of ints, on data -/
namespace DL
open L2 PySem PySem.Spec PyProof.Rows SCo
open Evl (Ex ex_l ex_t sz_of)
section
variable {K : PySem.W.Frag} {T : Tb} {S : SA} {E : XK} {Hb H Hb1 H1 : Hp} {n n1 : Nat} {te : TE} {FE : DT}
def slotT (ρ : List SV) (i : Nat) (k : List (List Key) → List D → Prop) : Prop := match ρ[i]? with
  | some (.ot ks ds) => k ks ds
  | _ => False
theorem slotT_zero {ks : List (List Key)} {ds : List D} {ρ : List SV} {k : List (List Key) → List D → Prop} : slotT (.ot ks ds :: ρ) 0 k = k ks ds := rfl
theorem slotT_succ {s : SV} {ρ : List SV} {i : Nat} {k : List (List Key) → List D → Prop} : slotT (s :: ρ) (i + 1) k = slotT ρ i k := rfl
/-- the rest of the frame where the dict at p is rewritten -/
theorem Slots.putT {ρ : List SV} {σ : L2.St} {p : Addr} {kvs us : List (List Key × V)} (sl : Slots K S Hb H n ρ σ) (h1 : H p = some (.dT kvs)) (h3 : p ≠ S.a) (h4 : p ≠ S.l) (no : noOd ρ = true) : Slots K S Hb (upd H p (.dT us)) n ρ σ := by
  have keep : ∀ {b : Addr} {o : HO}, H b = some o → b ≠ p → upd H p (.dT us) b = some o := fun e hb => by rw [upd_ne hb]; exact e
  refine ⟨sl.len, fun j s e => ?_, sl.ap⟩
  obtain ⟨o, e1, e2⟩ := sl.ok j s e
  refine ⟨o, e1, ?_⟩
  cases s with
  | no => trivial
  | d x => exact e2
  | st =>
    obtain ⟨e3, st⟩ := e2
    obtain ⟨g1, g2, ls, cs, m, t, g3, g4, g5, g6, g7, g8, rest⟩ := st
    exact ⟨e3, g1, g2, ls, cs, m, t, g3, g4, g5, keep g6 h3.symm, keep g7 h4.symm, g8, rest⟩
  | ol zs =>
    obtain ⟨q, ws, e3, e4, rest⟩ := e2
    exact ⟨q, ws, e3, keep e4 (fun z => by rw [z, h1] at e4; cases e4), rest⟩
  | me y C ms es2 =>
    obtain ⟨e3, dx, fs, e4, rest⟩ := e2
    exact ⟨e3, dx, fs, keep e4 (fun z => by rw [z, h1] at e4; cases e4), rest⟩
  | od ks es2 => exact nomatch (noOd_get no e)
  | ot ks es2 => exact nomatch (noOd_get no e)
  | fv F =>
    obtain ⟨f, c, e3, e4, e5, rest⟩ := e2
    exact ⟨f, c, e3, e4, keep e5 (fun z => by rw [z, h1] at e5; exact codeO_no (o := .dT kvs) (fun _ z => by cases z) (Option.some.inj e5)), rest⟩
end
end DL

/-! [x[y] for y in sorted(x)], x a dict of one's own by tuples of ints; sorted(set(xs)) of pairs; xs.index(pair) -/
namespace DL
open L2 PySem PySem.Spec PyProof.Rows SCo
open Evl (Ex ex_l ex_t sz_of)
section
variable {K : PySem.W.Frag} {T : Tb} {S : SA} {E : XK} {Hb H Hb1 H1 : Hp} {n n1 : Nat} {te : TE} {FE : DT}
theorem vals_at {f : List Int → D} : ∀ {kvs : List (List Key × V)} {nss : List (List Int)}, kvs.map (·.1) = nss.map (fun ns => ns.map Sum.inl) → DnA K Hb (kvs.map (·.2)) (nss.map f) → ∀ y ∈ nss, ∃ v, valV kvs (y.map Sum.inl) = some v ∧ Dn K Hb v (f y)
  | [], [], _, _, y, hy => nomatch hy
  | [], _ :: _, e, _, _, _ => by cases e
  | _ :: _, [], e, _, _, _ => by cases e
  | (k, v) :: kvs, z :: nss, e, h, y, hy => by
    obtain ⟨e1, e2⟩ := List.cons.inj e
    have e1 : k = z.map Sum.inl := e1
    cases h with
    | cons h1 h2 =>
      by_cases hz : z = y
      · subst hz
        refine ⟨v, ?_, h1⟩
        unfold valV
        rw [List.find?_cons_of_pos (by simp [e1])]
        rfl
      · have hy' : y ∈ nss := (List.mem_cons.mp hy).resolve_left fun z0 => hz z0.symm
        obtain ⟨v', q1, q2⟩ := vals_at e2 h2 y hy'
        refine ⟨v', ?_, q2⟩
        have hk : k ≠ y.map Sum.inl := fun z0 => by
          rw [e1] at z0
          have z1 := congrArg unl z0
          rw [unl_inl, unl_inl] at z1
          exact hz z1
        unfold valV at q1 ⊢
        rw [List.find?_cons_of_neg (by simpa using hk)]
        exact q1
/-! ### xs.index(y), xs tuples of ints -/
def dT (ns : List Int) : PyData := .tuple (ns.map .int)
theorem toPs_ints : ∀ ns : List Int, toPs (ns.map D.int) = some (ns.map .int)
  | [] => rfl
  | n :: ns => by
    show (match toP (D.int n), toPs (ns.map D.int) with | some p, some ps => some (p :: ps) | _, _ => none) = _
    rw [toPs_ints ns]
    rfl
theorem toP_tup (ns : List Int) : toP (tupI ns) = some (dT ns) := by
  show (toPs (ns.map D.int)).map PyData.tuple = _
  rw [toPs_ints]
  rfl
theorem toPs_tups : ∀ nss : List (List Int), toPs (nss.map tupI) = some (nss.map dT)
  | [] => rfl
  | n :: ns => by
    show (match toP (tupI n), toPs (ns.map tupI) with | some p, some ps => some (p :: ps) | _, _ => none) = _
    rw [toPs_tups ns, toP_tup]
    rfl
theorem eqv_ints : ∀ (a b : List Int), PyData.eqvAll (a.map PyData.int) (b.map PyData.int) = decide (a = b)
  | [], [] => by simp [PyData.eqvAll]
  | [], _ :: _ => by simp [PyData.eqvAll]
  | _ :: _, [] => by simp [PyData.eqvAll]
  | x :: a, y :: b => by
    simp only [List.map_cons, PyData.eqvAll, PyData.eqv, eqv_ints a b]
    by_cases h : x = y
    · subst h; simp
    · simp [h]
theorem eqv_dT (a b : List Int) : PyData.eqv (dT a) (dT b) = decide (a = b) := by
  unfold dT
  simp only [PyData.eqv]
  exact eqv_ints a b
end
end DL

/-! list(range(a, b)) -/
namespace DL
open L2 PySem PySem.Spec PyProof.Rows
open Evl (Ex ex_l ex_t sz_of)
section
variable {K : PySem.W.Frag} {T : Tb} {S : SA} {E : XK} {ta tb : TE} {FA FB : DT}
def rgI (a b : Int) : List Int := (List.range (b - a).toNat).map fun i => a + (i : Nat)
def xListRg2 (FA FB : DT) : DT := fun ρ n P XP => FA ρ n (fun d n1 => FB ρ n1 (fun e n2 => ∃ a b : Int, d = .int a ∧ e = .int b ∧ 0 ≤ a ∧ a ≤ 16777216 ∧ 0 ≤ b ∧ b ≤ 16777216 ∧ P (.lst ((rgI a b).map D.int)) n2) XP) XP
theorem rd_listRg2 (h1 : DL.Rd K T S E ta FA) (h2 : DL.Rd K T S E tb FB) : DL.Rd K T S E (tLstRg (tRg2 ta tb)) (xListRg2 FA FB) := fun σ ρ Hb H n P XP Q w sl h q x =>
  h1 σ ρ Hb H n _ XP _ w sl h (fun d v n1 Hb1 H1 s1 hd p => by
    refine h2 σ ρ Hb1 H1 n1 _ XP _ s1.wd (sl.step s1) p (fun e u n2 Hb2 H2 s2 he p => ?_) (x.step s1)
    obtain ⟨a, b, rfl, rfl, h0, ha, hb0, hb, p⟩ := p
    cases hd
    cases he
    refine ⟨a, b, rfl, rfl, RgOk.of_le h0 hb ha hb0, fun l hl => ?_⟩
    have e : rgV a b = (rgI a b).map V.int := by unfold rgV rgI; rw [List.map_map]; rfl
    rw [e]
    exact (q.step (s1.trans s2)).new s2.wd hl (.lst (SqL.of upd_same) (DnA.ints _)) p) x
end
end DL

/-! list + list; in of lists -/
namespace SCo
open L2 PySem PySem.Spec PyProof.Rows
def rCatL (K : PySem.W.Frag) : R2 := fun x y H Q => ∃ l b xs zs, x = .ref l ∧ y = .ref b ∧ SqL K H l xs ∧ SqL K H b zs ∧ xs.length + zs.length ≤ sizeLine ∧ ∀ p, H p = none → Q (.ref p) (upd H p (.lst (xs ++ zs)))
theorem op_catL {X : Cx} : OpR X (binaryOp .Add) (rCatL X.K) := by
  intro pins s σ H x y v u Q I rx ry h
  obtain ⟨l, b, xs, zs, rfl, rfl, h1, h2, hz, q⟩ := h
  cases rx
  cases ry
  obtain ⟨its, r1, p1, z1⟩ := I.list h1
  obtain ⟨its2, r2, p2, z2⟩ := I.list h2
  obtain ⟨⟨c1, d1, x1, k1⟩, g1, e1, n1, f1⟩ := id p1.isList
  obtain ⟨⟨c2, d2, x2, k2⟩, g2, e2, n2, f2⟩ := id p2.isList
  dsimp only at e1 f1 e2 f2
  subst e1 f1 e2 f2
  have l1 := r1.length
  have l2 := r2.length
  refine concat_meets ⟨_, g1, rfl⟩ ⟨_, g2, rfl⟩ noFill_list_add seq_list_add PySem.F.slot_list_add PySem.F.entry_list_add (PySem.F.args_list_add_2 _ _) (list_addW l b its.toArray its2.toArray n1 n2 d1 d2 k1 k2 (by rw [List.size_toArray, List.size_toArray]; omega)) ⟨g1, g2, ?_⟩
  have e : its.toArray ++ its2.toArray = (its ++ its2).toArray := by simp
  rw [e]
  exact ⟨.ref _, _, I.lnew (t' := s.toks) (r1.append r2) (by rw [List.length_append]; omega), rfl, q _ I.fresh⟩
end SCo
namespace DL
open L2 PySem PySem.Spec PyProof.Rows SCo
open Evl (Ex ex_l ex_t sz_of)
section
variable {K : PySem.W.Frag} {T : Tb} {S : SA} {E : XK} {te : TE} {FE : DT}
def addLD : D → D → (D → Prop) → Prop
  | .lst xs, .lst ys, k => xs.length + ys.length ≤ 100000 ∧ k (.lst (xs ++ ys))
  | _, _, _ => False
theorem o2_addL : Op2 K (rCatL K) addLD := by
  intro T S x y a b Hb H n P Q w hx hy h q
  cases hx with
  | @lst a xs ds h1 h2 =>
    cases hy with
    | @lst b ys es h3 h4 =>
      obtain ⟨hl, h⟩ := h
      exact ⟨a, b, xs, ys, rfl, rfl, ex_l w.ex h1, ex_l w.ex h3, sz_of (by rw [h2.len, h4.len]; exact hl), fun p hp => q.new w hp (.lst (SqL.of upd_same) ((h2.app h4).up (Ex.new (free_of w.ex hp)))) h⟩
    | _ => exact h.elim
  | _ => exact h.elim
end
end DL

/-! set(xs) of tuples of ints, xs of any length, few different ones -/
namespace SCo
open L2 PySem PySem.Spec PyProof.Rows
section
variable {P : Program} {w : World} {A : Around} {E : Value → Shared → Prop} {s : Shared}
variable {I : Addr} {fp wr : List Addr} {G : Array GenState → Array GenState → Prop} {n : Nat} {Pv : Nat → Value → Prop} {St : Nat → Shared → Prop} {R : Result → Shared → Prop} {S : Addr} {ks : List (Addr × List Int)} {h0 : Heap}
end
end SCo

/-! zip of three tuples of one length: as a walk, and as a value that a comprehension walks -/
namespace RZ
open PySem PySem.Calls PyProof.Rows PyProof.V PySem.Spec PySem.W L2
abbrev IsTri (h : Heap) (T : Addr) (a b c : Value) : Prop := h.get? T = some { cls := .type "tuple", data := .seq #[a, b, c] }
/-- where the zip of three tuples and its parts stand, in h, with what was elsewhere in h0 -/
structure Z3 (h0 h : Heap) (z TI TO i1 i2 i3 l1 l2 l3 : Addr) (f0 a b c : Value) (k1 k2 k3 : Nat) : Prop where
  zp : IsZip h z TI TO f0
  ti : IsTri h TI (.ref i1) (.ref i2) (.ref i3)
  to : IsTri h TO a b c
  one : h.IsTupleIter i1 l1 k1
  two : h.IsTupleIter i2 l2 k2
  thr : h.IsTupleIter i3 l3 k3
  keep : ∀ d o, d ∉ [z, TI, TO, i1, i2, i3] → h0.get? d = some o → h.get? d = some o
  sz : h.objs.size = h0.objs.size
section
variable {h0 h h' : Heap} {z TI TO i1 i2 i3 l1 l2 l3 : Addr} {f0 a b c : Value} {k1 k2 k3 : Nat}
theorem ap3 (D : [z, TI, TO, i1, i2, i3].Nodup) : (z ≠ TI ∧ z ≠ TO ∧ z ≠ i1 ∧ z ≠ i2 ∧ z ≠ i3) ∧ (TI ≠ TO ∧ TI ≠ i1 ∧ TI ≠ i2 ∧ TI ≠ i3) ∧ (TO ≠ i1 ∧ TO ≠ i2 ∧ TO ≠ i3) ∧ (i1 ≠ i2 ∧ i1 ≠ i3) ∧ i2 ≠ i3 := by
  simpa using D
theorem Z3.base (x : Z3 h0 h z TI TO i1 i2 i3 l1 l2 l3 f0 a b c k1 k2 k3) : Z3 h h z TI TO i1 i2 i3 l1 l2 l3 f0 a b c k1 k2 k3 := ⟨x.zp, x.ti, x.to, x.one, x.two, x.thr, fun _ _ _ g => g, rfl⟩
theorem Z3.push (x : Z3 h0 h z TI TO i1 i2 i3 l1 l2 l3 f0 a b c k1 k2 k3) (o : Obj) : Z3 (h.push o) (h.push o) z TI TO i1 i2 i3 l1 l2 l3 f0 a b c k1 k2 k3 :=
  ⟨Heap.get?_push_of_some _ x.zp, Heap.get?_push_of_some _ x.ti, Heap.get?_push_of_some _ x.to, x.one.at fun o e => Heap.get?_push_of_some _ e, x.two.at fun o e => Heap.get?_push_of_some _ e, x.thr.at fun o e => Heap.get?_push_of_some _ e, fun _ _ _ g => g, rfl⟩
theorem Z3.lt (x : Z3 h0 h z TI TO i1 i2 i3 l1 l2 l3 f0 a b c k1 k2 k3) : ∀ q ∈ [z, TI, TO, i1, i2, i3], q < h.objs.size := fun q hq => by
  simp only [List.mem_cons, List.not_mem_nil, or_false] at hq
  rcases hq with rfl | rfl | rfl | rfl | rfl | rfl
  · exact Heap.lt_size x.zp
  · exact Heap.lt_size x.ti
  · exact Heap.lt_size x.to
  · obtain ⟨_, e, _⟩ := x.one; exact Heap.lt_size e
  · obtain ⟨_, e, _⟩ := x.two; exact Heap.lt_size e
  · obtain ⟨_, e, _⟩ := x.thr; exact Heap.lt_size e
theorem Z3.tup (x : Z3 h0 h z TI TO i1 i2 i3 l1 l2 l3 f0 a b c k1 k2 k3) {l : Addr} {us : Array Value} (n : l ∉ [z, TI, TO, i1, i2, i3]) (hl : h0.IsTuple l us) : h.IsTuple l us := hl.at fun o g => x.keep _ o n g
end
section
variable {prog : Program} {w : World} {A : Around} {E : Value → Shared → Prop} {s : Shared}
end
end RZ
namespace RZ
open PySem PySem.Calls PyProof.Rows PyProof.V PySem.Spec PySem.W L2
theorem Z3.let {h0 h h' : Heap} {z TI TO i1 i2 i3 l1 l2 l3 : Addr} {f0 f1 a b c : Value} {k1 k2 k3 : Nat} (x : Z3 h0 h z TI TO i1 i2 i3 l1 l2 l3 f0 a b c k1 k2 k3) (D : [z, TI, TO, i1, i2, i3].Nodup) (hz : IsZip h' z TI TO f1) (e : Heap.SameBut z h h') : Z3 h' h' z TI TO i1 i2 i3 l1 l2 l3 f1 a b c k1 k2 k3 := by
  obtain ⟨⟨d1, d2, d3, d4, d5⟩, _⟩ := ap3 D
  exact ⟨hz, (e.2 _ d1.symm).trans x.ti, (e.2 _ d2.symm).trans x.to, x.one.at fun o g => (e.2 _ d3.symm).trans g, x.two.at fun o g => (e.2 _ d4.symm).trans g, x.thr.at fun o g => (e.2 _ d5.symm).trans g, fun _ _ _ g => g, rfl⟩
end RZ
namespace RZ
open PySem PySem.Calls PyProof.Rows PyProof.V PySem.Spec PySem.W L2
def drop (H : Hp) (ds : List Addr) : Hp := fun b => if b ∈ ds then none else H b
end RZ

/-! in of lists of tuples of ints; comprehensions with two fors -/
namespace DL
open L2 PySem PySem.Spec PyProof.Rows SCo
open Evl (Ex ex_l ex_t sz_of)
section
variable {K : PySem.W.Frag} {T : Tb} {S : SA} {E : XK} {Hb H Hb1 H1 : Hp} {n n1 : Nat} {te : TE} {FE : DT}
/-- a list of one's own, not frozen, grows by one -/
theorem Stp.grow {L : Addr} {accV : List V} {u : V} (st5 : Stp K T S Hb H n Hb1 H1 n1) (hL : H L = none) (eL5 : H1 L = some (.lst accV)) (fL5 : Hb1 L = none) (nSa : L ≠ S.a) (nSl : L ≠ S.l) : Stp K T S Hb H n Hb1 (upd H1 L (.lst (accV ++ [u]))) n1 := by
  have w5 := st5.wd
  have nT : ∀ q ∈ T, q.1 ≠ L := fun q hq z => by
    obtain ⟨ps, e, _⟩ := w5.tabs q hq
    rw [z, eL5] at e
    cases e
  refine ⟨st5.ex, ⟨fun b o e => ?_, fun q hq => ?_, w5.tb, ?_, ?_, ?_, w5.nt⟩, fun h0 => ?_, fun b o e1 e2 e3 e4 e5 => ?_, fun b e => st5.dm b (dm_upd (fun _ z => by cases z) b e)⟩
  · rw [upd_ne (fun z => by rw [z, fL5] at e; cases e)]
    exact w5.ex b o e
  · obtain ⟨ps, e, t1, t2⟩ := w5.tabs q hq
    refine ⟨ps, by rw [upd_ne (nT q hq)]; exact e, t1, fun pos cv hcv => ?_⟩
    obtain ⟨c, e1, e2⟩ := t2 pos cv hcv
    refine ⟨c, e1, ?_⟩
    rw [upd_ne (fun z => by rw [z, eL5] at e2; unfold LamX.CodeO at e2; cases e2)]
    exact e2
  · exact w5.sa.upd fun _ z => by cases z
  · exact w5.sl.upd fun _ z => by cases z
  · exact w5.sc.upd fun _ z => by cases z
  · obtain ⟨g1, g2, ls, cs, mm, t, g3, g4, g5, g6, g7, g8, rest⟩ := st5.st h0
    exact ⟨g1, g2, ls, cs, mm, t, g3, g4, g5, by rw [upd_ne nSa.symm]; exact g6, by rw [upd_ne nSl.symm]; exact g7, g8, rest⟩
  · have hb : b ≠ L := ne_of_none e1 hL
    rw [upd_ne hb]
    exact st5.own0 b o e1 e2 e3 e4 e5
/-- nothing but data in the slots -/
def plainS (ρ : List SV) : Bool := ρ.all fun s => match s with | .d _ => true | .no => true | _ => false
theorem Slots.plain {ρ : List SV} {σ : L2.St} {Hb' H' : Hp} {n' : Nat} (h : plainS ρ = true) (sl : Slots K S Hb H n ρ σ) (e : Ex Hb Hb') : Slots K S Hb' H' n' ρ σ where
  len := sl.len
  ok := fun i s es => by
    obtain ⟨o, e1, e2⟩ := sl.ok i s es
    refine ⟨o, e1, ?_⟩
    have hp := List.all_eq_true.mp h s (List.mem_of_getElem? es)
    cases s with
    | no => trivial
    | d x =>
      obtain ⟨v, q, hv⟩ := e2
      exact ⟨v, q, hv.up e⟩
    | _ => cases hp
  ap := fun i j p xs ys hne e1 e2 e3 e4 => by
    have hp := List.all_eq_true.mp h _ (List.mem_of_getElem? e1)
    cases hp
def compL (step : D → Nat → (List D → Nat → Prop) → Prop) : List D → Nat → (List D → Nat → Prop) → Prop
  | [], n, P => P [] n
  | x :: xs, n, P => step x n fun ds n' => compL step xs n' fun es n'' => P (ds ++ es) n''
def inLc (G1 : DTG) (FT : DTT) (FE : DT) (vs1 : List Nat) (ρ2 : List SV) : D → Nat → (Option D → Nat → Prop) → Prop := fun y n4 k1 => G1 y (wipeS ρ2 vs1) fun ρ3 => FT ρ3 n4 (fun b n5 => match b with | true => FE ρ3 n5 (fun d n6 => k1 (some d) n6) xF | false => k1 none n5) xF
def xnLc2 (FI : DTI) (G : DTG) (FI1 : DTI) (G1 : DTG) (FT : DTT) (FE : DT) (vs vs1 : List Nat) : DTL := fun ρ n P XP => FI ρ n (fun xs n1 => xs.length ≤ 1000 ∧
  compL (fun x n2 k => G x (wipeS ρ vs) fun ρ2 => plainS ρ2 = true ∧ FI1 ρ2 n2 (fun ys n3 => ys.length ≤ 64 ∧ compM (inLc G1 FT FE vs1 ρ2) ys n3 k) xF) xs n1 P) XP
theorem rdn_lc2 {wi wi1 : TI} {g g1 : TG} {tt1 : TT} {FI FI1 : DTI} {G G1 : DTG} {FT : DTT} {vs vs1 : List Nat} (hi : RdJ K T S E wi FI) (hg : RdG K T S vs g G) (hi1 : RdI K T S E0 wi1 FI1) (hg1 : RdG K T S vs1 g1 G1) (ht : RdT K T S E0 tt1 FT) (he : DL.Rd K T S E0 te FE) :
    RdN K T S E (tLc2 wi g tYes wi1 g1 tt1 te vs vs1) (xnLc2 FI G FI1 G1 FT FE vs vs1) := fun σ ρ Hb H n P XP Q w sl h q x =>
  hi σ ρ Hb H n _ XP _ w sl h (fun xs n1 Hb1 H1 J s src p => by
    obtain ⟨hlen, p⟩ := p
    intro L hL
    have nSa : L ≠ S.a := s.wd.sa.ne (fresh_none hL)
    have nSl : L ≠ S.l := s.wd.sl.ne (fresh_none hL)
    have nSc : L ≠ S.c := s.wd.sc.ne (fresh_none hL)
    refine ⟨fun i m H2 => m = xs.length - i ∧ i ≤ xs.length ∧ ∃ n2 Hb2 accV acc, Stp K T S Hb1 H1 n1 Hb2 H2 n2 ∧ H2 L = some (.lst accV) ∧ Hb2 L = none ∧ DnA K Hb2 accV acc ∧ acc.length ≤ 64 * i ∧
      compL (fun x n2 k => G x (wipeS ρ vs) fun ρ2 => plainS ρ2 = true ∧ FI1 ρ2 n2 (fun ys n3 => ys.length ≤ 64 ∧ compM (inLc G1 FT FE vs1 ρ2) ys n3 k) xF) (xs.drop i) n2 fun ds n5 => P (acc ++ ds) n5,
      ⟨xs.length, rfl, Nat.zero_le _, n1, Hb1, [], [], .newO s.wd hL, upd_same, free_of s.wd.ex hL, .nil, Nat.le_refl _, p⟩, ?_⟩
    rintro i m H2 ⟨rfl, hi2, n2, Hb2, accV, acc, s2, eL, fL, hacc, la, hc⟩
    obtain ⟨stop, go⟩ := src Hb2 H2 n2 i s2
    by_cases hlt : i < xs.length
    · have ex : xs[i]? = some xs[i] := List.getElem?_eq_getElem hlt
      obtain ⟨hgo, hy⟩ := go _ ex
      have ed : xs.drop i = xs[i] :: xs.drop (i + 1) := List.drop_eq_getElem_cons hlt
      rw [ed] at hc
      refine .inr ⟨hgo, fun H' => ∃ n' Hb' accV acc, Stp K T S Hb1 H1 n1 Hb' H' n' ∧ H' L = some (.lst accV) ∧ Hb' L = none ∧ DnA K Hb' accV acc ∧ acc.length ≤ 64 * (i + 1) ∧
        compL (fun x n2 k => G x (wipeS ρ vs) fun ρ2 => plainS ρ2 = true ∧ FI1 ρ2 n2 (fun ys n3 => ys.length ≤ 64 ∧ compM (inLc G1 FT FE vs1 ρ2) ys n3 k) xF) (xs.drop (i + 1)) n' fun ds n5 => P (acc ++ ds) n5,
        fun H' hN => ⟨xs.length - (i + 1), by omega, rfl, hlt, hN⟩, fun v H' y => ?_⟩
      obtain ⟨Hb3, s3, hv⟩ := item_step (n := n2) s2.wd (hy v H' y)
      have st3 := s2.trans s3
      have sl3 : Sl0 K S (fun _ => none) Hb3 H' n2 (wipeS ρ vs) (wipe σ vs) := ⟨((sl.step s).step st3).wiped vs, fun _ _ _ _ _ _ => fresh_none rfl⟩
      have ne : ∀ ps, HO.lst accV ≠ .tbl ps := fun ps z => by cases z
      refine hg v _ (wipe σ vs) (wipeS ρ vs) _ Hb3 H' n2 _ _ s3.wd sl3 hv hc fun ρ4 σ4 sl4 hw hT => ⟨hw.trans wipe_wipe, ?_⟩
      obtain ⟨eL3, fL3⟩ := s3.own L _ eL fL nSa nSl ne
      unfold tYes
      refine iteT ?_
      obtain ⟨hpl, hT⟩ := hT
      have step_eq : ∀ ds es : List D, acc ++ (ds ++ es) = (acc ++ ds) ++ es := fun ds es => by rw [List.append_assoc]
      simp only [step_eq] at hT
      refine hi1 σ4 ρ4 Hb3 H' n2 _ xF _ s3.wd sl4.sl hT (fun ys n4 Hb4 H4 J1 s4 src1 p4 => ?_) XOk.none
      obtain ⟨hlen1, p4⟩ := p4
      obtain ⟨eL4, fL4⟩ := s4.own L _ eL3 fL3 nSa nSl ne
      refine ⟨fun j k H5 => k = ys.length - j ∧ j ≤ ys.length ∧ ∃ n5 Hb5 accV5 acc5, Stp K T S Hb1 H1 n1 Hb5 H5 n5 ∧ Ex Hb4 Hb5 ∧ H5 L = some (.lst accV5) ∧ Hb5 L = none ∧ DnA K Hb5 accV5 acc5 ∧ acc5.length ≤ 64 * i + j ∧
        compM (inLc G1 FT FE vs1 ρ4) (ys.drop j) n5 fun ds n6 => compL (fun x n2 k => G x (wipeS ρ vs) fun ρ2 => plainS ρ2 = true ∧ FI1 ρ2 n2 (fun ys n3 => ys.length ≤ 64 ∧ compM (inLc G1 FT FE vs1 ρ2) ys n3 k) xF) (xs.drop (i + 1)) n6 fun es n7 => P ((acc5 ++ ds) ++ es) n7,
        ⟨ys.length, rfl, Nat.zero_le _, n4, Hb4, accV, acc, st3.trans s4, Ex.refl _, eL4, fL4, (hacc.up s3.ex).up s4.ex, by omega, p4⟩, ?_⟩
      rintro j k H5 ⟨rfl, hj2, n5, Hb5, accV5, acc5, s5, x5, eL5, fL5, hacc5, la5, hc5⟩
      obtain ⟨stop1, go1⟩ := src1 Hb5 H5 j x5 s5.wd.ex
      by_cases hjt : j < ys.length
      · have ey : ys[j]? = some ys[j] := List.getElem?_eq_getElem hjt
        obtain ⟨hgo1, hy1⟩ := go1 _ ey
        have edj : ys.drop j = ys[j] :: ys.drop (j + 1) := List.drop_eq_getElem_cons hjt
        rw [edj] at hc5
        refine .inr ⟨hgo1, fun H' => ∃ n5 Hb5 accV5 acc5, Stp K T S Hb1 H1 n1 Hb5 H' n5 ∧ Ex Hb4 Hb5 ∧ H' L = some (.lst accV5) ∧ Hb5 L = none ∧ DnA K Hb5 accV5 acc5 ∧ acc5.length ≤ 64 * i + (j + 1) ∧
          compM (inLc G1 FT FE vs1 ρ4) (ys.drop (j + 1)) n5 fun ds n6 => compL (fun x n2 k => G x (wipeS ρ vs) fun ρ2 => plainS ρ2 = true ∧ FI1 ρ2 n2 (fun ys n3 => ys.length ≤ 64 ∧ compM (inLc G1 FT FE vs1 ρ2) ys n3 k) xF) (xs.drop (i + 1)) n6 fun es n7 => P ((acc5 ++ ds) ++ es) n7,
          fun H' hN => ⟨ys.length - (j + 1), by omega, rfl, hjt, hN⟩, fun v6 H6 y6 => ?_⟩
        obtain ⟨Hb6, s6, hv6⟩ := item_step (n := n5) s5.wd (hy1 v6 H6 y6)
        have ne5 : ∀ ps, HO.lst accV5 ≠ .tbl ps := fun ps z => by cases z
        obtain ⟨eL6, fL6⟩ := s6.own L _ eL5 fL5 nSa nSl ne5
        have slp : Slots K S Hb6 H6 n5 ρ4 σ4 := Slots.plain hpl sl4.sl ((s4.ex.trans x5).trans s6.ex)
        have sl6 : Sl0 K S (fun _ => none) Hb6 H6 n5 (wipeS ρ4 vs1) (wipe σ4 vs1) := ⟨slp.wiped vs1, fun _ _ _ _ _ _ => fresh_none rfl⟩
        refine hg1 v6 _ (wipe σ4 vs1) (wipeS ρ4 vs1) _ Hb6 H6 n5 _ _ s6.wd sl6 hv6 hc5 fun ρ7 σ7 sl7 hw7 hT7 => ⟨hw7.trans wipe_wipe, ?_⟩
        refine ht σ7 ρ7 Hb6 H6 n5 _ xF _ s6.wd sl7.sl hT7 (fun b n8 Hb8 H8 s8 p8 => ?_) XOk.none
        obtain ⟨eL8, fL8⟩ := s8.own L _ eL6 fL6 nSa nSl ne5
        have hacc8 := (hacc5.up s6.ex).up s8.ex
        have st8 := (s5.trans s6).trans s8
        have x8 := (x5.trans s6.ex).trans s8.ex
        cases b with
        | false => exact iteF ⟨n8, Hb8, accV5, acc5, st8, x8, eL8, fL8, hacc8, by omega, p8⟩
        | true =>
          refine iteT ?_
          refine he σ7 ρ7 Hb8 H8 n8 _ xF _ s8.wd (sl7.sl.step s8) p8 (fun d u n9 Hb9 H9 s9 hu p9 => ?_) XOk.none
          obtain ⟨eL9, fL9⟩ := s9.own L _ eL8 fL8 nSa nSl ne5
          have hacc9 := hacc8.up s9.ex
          have st9 := st8.trans s9
          refine ⟨accV5, eL9, ?_, n9, Hb9, accV5 ++ [u], acc5 ++ [d], st9.grow hL eL9 fL9 nSa nSl, x8.trans s9.ex, upd_same, fL9, hacc9.app (.one hu), by simp; omega, ?_⟩
          · rw [hacc9.len]
            exact Nat.lt_of_lt_of_le (by omega : acc5.length < 100000) (sz_of (n := 100000) (Nat.le_refl _))
          · have e6 : ∀ ds, (acc5 ++ [d]) ++ ds = acc5 ++ (d :: ds) := fun ds => by simp
            simp only [e6]
            exact p9
      · have e : j = ys.length := by omega
        subst e
        rw [List.drop_length] at hc5
        refine .inl ⟨stop1 (Nat.le_refl _), n5, Hb5, accV5, acc5, s5, eL5, fL5, hacc5, by omega, ?_⟩
        have hc5 : compL _ (xs.drop (i + 1)) n5 fun es n7 => P ((acc5 ++ []) ++ es) n7 := hc5
        simp only [List.append_nil] at hc5
        exact hc5
    · have e : i = xs.length := by omega
      subst e
      refine .inl ⟨stop (Nat.le_refl _), ?_⟩
      rw [List.drop_length] at hc
      have hc : P (acc ++ []) n2 := hc
      rw [List.append_nil] at hc
      exact q acc L accV n2 Hb2 H2 (s.trans s2) (s.dm L (fresh_none hL)) eL fL hacc hc) x
def xLc2 (FI : DTI) (G : DTG) (FI1 : DTI) (G1 : DTG) (FT : DTT) (FE : DT) (vs vs1 : List Nat) : DT := fun ρ n P XP => xnLc2 FI G FI1 G1 FT FE vs vs1 ρ n (fun ds n1 => P (.lst ds) n1) XP
theorem rd_lc2 {wi wi1 : TI} {g g1 : TG} {tt1 : TT} {FI FI1 : DTI} {G G1 : DTG} {FT : DTT} {vs vs1 : List Nat} (hi : RdJ K T S E wi FI) (hg : RdG K T S vs g G) (hi1 : RdI K T S E0 wi1 FI1) (hg1 : RdG K T S vs1 g1 G1) (ht : RdT K T S E0 tt1 FT) (he : DL.Rd K T S E0 te FE) :
    DL.Rd K T S E (tLc2 wi g tYes wi1 g1 tt1 te vs vs1) (xLc2 FI G FI1 G1 FT FE vs vs1) := rd_of_new (rdn_lc2 hi hg hi1 hg1 ht he)
end
end DL

/-! an int not in a tuple of ints -/
namespace DL
open L2 PySem PySem.Spec PyProof.Rows
open Evl (Ex ex_l ex_t sz_of)
section
variable {K : PySem.W.Frag}
def notInD : D → D → (D → Prop) → Prop := fun a b k => ∃ (i : Int) (ns : List Int), a = .int i ∧ b = .tup (ns.map .int) ∧ k (.bl (!ns.any (· == i)))
theorem o2_notIn : Op2 K (rIn K true) notInD := by
  intro T S x y a b Hb H n P Q w hx hy h q
  obtain ⟨i, ns, rfl, rfl, h⟩ := h
  cases hx
  cases hy with
  | @tup a xs ds h1 h2 =>
    have ev : ∀ {ns : List Int} {xs : List V}, DnA K Hb xs (ns.map D.int) → xs = ns.map V.int := by
      intro ns
      induction ns with
      | nil => intro xs h; cases h; rfl
      | cons m ns ih =>
        intro xs h
        cases h with
        | cons h1 h2 =>
          cases h1
          rw [ih h2]
          rfl
    have e := ev h2
    subst e
    refine ⟨a, _, rfl, .inr (ex_t w.ex h1), rfl, ?_, ?_⟩
    · simp [List.all_map]; intro x hx; rfl
    · refine q.now w (.bl _) ?_
      have ei : inV (V.int i) (ns.map V.int) = ns.any (· == i) := by
        unfold inV
        rw [List.any_map]
        rfl
      show P (.bl (if true = true then !inV (V.int i) (ns.map V.int) else inV (V.int i) (ns.map V.int))) n
      rw [if_pos rfl, ei]
      exact h
end
end DL

/-! len of a dict -/
namespace DL
open L2 PySem PySem.Spec PyProof.Rows
open Evl (Ex ex_l ex_t sz_of)
section
variable {K : PySem.W.Frag}
def rLenK : List V → Hp → VK → Prop := fun xs H Q => ∃ a kvs, xs = [V.ref a] ∧ H a = some (.dK kvs) ∧ Q (.int kvs.length) H
theorem call_lenK {X : Cx} : CallR X (.builtin "len") rLenK := call_lenD
def lenKD : D → (D → Prop) → Prop
  | .dic ks _, k => k (.int ks.length)
  | _, _ => False
theorem cal_lenK : Cal K rLenK (one1 lenKD) := by
  refine cal_one ?_
  intro T S v d Hb H n P Q w hv h q
  cases hv with
  | @dic a kvs ks ds h1 h2 h3 =>
    refine ⟨a, kvs, rfl, w.ex _ _ h1, q.now w (.int _) ?_⟩
    have h' : P (.int (ks.length : Nat)) n := h
    rw [← h2, List.length_map] at h'
    exact h'
  | _ => exact h.elim
end
end DL

/-! min(xs, default=d), xs a list of tuples of ints -/
namespace SCo
open L2 PySem PySem.Spec PyProof.Rows PySem.W
def leastL (x : List Int) (xs : List (List Int)) : List Int := xs.foldl (fun a y => if ltI y a then y else a) x
theorem minD_tups : ∀ (cs : List (V × List Int)) (x : List Int), PySem.W.minD (.tuple (x.map .int)) (cs.map encT) = .tuple ((leastL x (cs.map (·.2))).map .int)
  | [], x => rfl
  | c :: cs, x => by
    have ih := minD_tups cs
    unfold PySem.W.minD leastL at ih ⊢
    rw [List.map_cons, List.map_cons, List.foldl_cons, List.foldl_cons, ← ih]
    have e : encT c = .tuple (c.2.map .int) := rfl
    rw [e, dataLt_tup]
    by_cases h : ltI c.2 x = true
    · rw [if_pos h, if_pos h]
    · rw [if_neg h, if_neg h]
theorem tuple_ints_inj {a b : List Int} (h : PyData.tuple (a.map .int) = .tuple (b.map .int)) : a = b := by
  have h2 : a.map PyData.int = b.map PyData.int := by injection h
  have := congrArg (fun l => l.map fun d => match d with | .int i => i | _ => 0) h2
  simpa [List.map_map, Function.comp_def] using this
theorem readsAll_each {h : Heap} {R : Value → V × List Int → Prop} {its : List Value} {bs : List (V × List Int)} (e : EachIs R its bs) (hr : ∀ v b, R v b → ∃ as, Reads h v (encT b) as) : ∃ as, ReadsAll h its (bs.map encT) as := by
  induction e with
  | nil => exact ⟨[], .nil⟩
  | cons r _ ih =>
    obtain ⟨as, h1⟩ := hr _ _ r
    obtain ⟨as2, h2⟩ := ih
    exact ⟨_, .cons h1 h2⟩
theorem depthAll_encT : ∀ bs : List (V × List Int), PyData.depthAll (bs.map encT) ≤ 1
  | [] => by simp [PyData.depthAll]
  | b :: bs => by
    have e : (encT b).depth ≤ 1 := by
      unfold encT
      rw [PyData.depth, depth_ints]
      exact Nat.le_refl 1
    have := depthAll_encT bs
    rw [List.map_cons, PyData.depthAll]
    omega
def rMinDef (K : PySem.W.Frag) : List V → List V → Hp → VK → Prop := fun vs zs H Q => ∃ (a : Addr) (bs : List (V × List Int)) (d : V), vs = [.ref a] ∧ zs = [d] ∧ SqL K H a (bs.map (·.1)) ∧ (∀ b ∈ bs, TupI K H b.1 b.2) ∧ (bs = [] → Q d H) ∧
  ∀ b e cs, b ∈ bs → bs = e :: cs → b.2 = leastL e.2 (cs.map (·.2)) → Q b.1 H
section
variable {X : Cx}
theorem cr_minDef {k0 : Nat} (hr : Room k0 X.A) (calm : X.calm = true := by rfl) : CallRK X (.builtin "min") [Str.ofString "default"] (rMinDef X.K) := by
  intro pins s σ H vs zs us ws Q I r rz h
  obtain ⟨a, bs, d, rfl, rfl, hs, hb, q0, q1⟩ := h
  obtain rfl := Vals.ref1 r
  obtain ⟨w1, rfl, e1⟩ := vals1 rz
  obtain ⟨its, rv, hl, hz⟩ := I.list hs
  have each := vals_each rv
  obtain ⟨as, ra⟩ := readsAll_each (h := s.heap) each fun v b hm => by
    obtain ⟨t, e, ht⟩ := hb b hm.2
    have rv2 := hm.1
    rw [e] at rv2
    cases rv2
    obtain ⟨its2, r2, ⟨o2, g1, g2, n2, g3⟩, _⟩ := I.tuple ht
    exact ⟨_, .tuple g1 g2 g3 (reads_ints (vals_ints' r2))⟩
  have kept : ∀ {h' : Heap} {tk : Nat}, (∀ b o, s.heap.get? b = some o → h'.get? b = some o) → Inv X pins σ H { s with heap := h', toks := tk } := fun kp => I.un (Un.kept kp) (I.hok.kept kp)
  refine PySem.W.min_list_default (I.ok.hd calm) hl.isList (by simpa using ra) ⟨alikeT, fun x hx => ?_⟩ (by have := hr.un; have := depthAll_encT bs; omega) (fun e h' tk kp => ?_) fun y ys i v h' tk bs' e hv hre kp => ?_
  · obtain ⟨b, _, rfl⟩ := List.mem_map.mp hx
    exact fun z => nomatch z
  · exact ⟨d, H, kept kp, e1, q0 (List.map_eq_nil_iff.mp e)⟩
  · cases bs with
    | nil => cases e
    | cons b0 cs =>
      obtain ⟨rfl, rfl⟩ := List.cons.inj e
      have hi : i < (b0 :: cs).length := by
        have z := (Array.getElem?_eq_some_iff.mp hv).1
        have z2 := rv.length
        rw [List.length_map] at z2
        rw [z2]
        simpa using z
      have hv' : its[i]? = some v := by simpa using hv
      obtain ⟨bs2, rd2, _⟩ := PySem.W.readsAll_at ra i v hv'
      have eg : ((b0 :: cs).map encT).getD i .none = encT (b0 :: cs)[i] := by
        rw [List.getD_eq_getElem?_getD, List.getElem?_map, List.getElem?_eq_getElem hi]
        rfl
      rw [eg] at rd2
      have rd3 := Reads.keeps kp rd2
      have eu := (Reads.unique rd3 _ _ hre).1
      have e0 : encT b0 = .tuple (b0.2.map .int) := rfl
      rw [e0, minD_tups] at eu
      have eb := tuple_ints_inj (show PyData.tuple ((b0 :: cs)[i].2.map .int) = _ from eu)
      obtain ⟨v2, hv2, rv2⟩ := rv.get (i := i) (x := (b0 :: cs)[i].1) (by rw [List.getElem?_map, List.getElem?_eq_getElem hi]; rfl)
      rw [hv'] at hv2
      cases hv2
      exact ⟨_, H, kept kp, rv2, q1 _ b0 cs (List.getElem_mem hi) rfl eb⟩
end
end SCo
namespace DL
open L2 PySem PySem.Spec PyProof.Rows SCo
open Evl (Ex ex_l ex_t sz_of)
section
variable {K : PySem.W.Frag} {T : Tb} {S : SA} {E : XK} {te td : TE} {FE FD : DT}
def minDef (d : D) : List (List Int) → D
  | [] => d
  | x :: xs => tupI (leastL x xs)
def xMinDef (F G : DT) : DT := fun ρ n P XP => F ρ n (fun a n1 => G ρ n1 (fun d n2 => match a with
  | .lst xs => ∃ nss : List (List Int), xs = nss.map tupI ∧ P (minDef d nss) n2
  | _ => False) XP) XP
theorem rd_minDef (h1 : DL.Rd K T S E te FE) (h2 : DL.Rd K T S E td FD) : DL.Rd K T S E (tCKw (rMinDef K) (tCons te tNil) (tCons td tNil)) (xMinDef FE FD) := fun σ ρ Hb H n P XP Q w sl h q x => by
  refine h1 σ ρ Hb H n _ XP _ w sl h (fun d v n1 Hb1 H1 s hd p => ?_) x
  refine h2 σ ρ Hb1 H1 n1 _ XP _ s.wd (sl.step s) p (fun e u n2 Hb2 H2 s2 he p2 => ?_) (x.step s)
  show rMinDef K [v] [u] H2 Q
  have st := s.trans s2
  have hd2 := hd.up s2.ex
  cases hd2 with
  | @lst a vs ds g1 g2 =>
    obtain ⟨nss, rfl, pp⟩ := p2
    obtain ⟨bs, rfl, rfl, hb⟩ := tups_of g2
    refine ⟨a, bs, u, rfl, rfl, ex_l s2.wd.ex g1, fun b hm => ?_, fun eb => ?_, fun b e0 cs hm eb eq => ?_⟩
    · obtain ⟨⟨t, e1, ht⟩, _⟩ := hb b hm
      exact ⟨t, e1, ex_t s2.wd.ex ht⟩
    · subst eb
      exact q _ _ n2 Hb2 H2 st he pp
    · subst eb
      have pp : P (tupI (leastL e0.2 (cs.map (·.2)))) n2 := pp
      rw [← eq] at pp
      exact q _ _ n2 Hb2 H2 st (hb b hm).2 pp
  | _ => exact p2.elim
end
end DL

/-! dict comprehensions whose keys are tuples -/
namespace SCo
open L2 PySem PySem.Spec PyProof.Rows PpSet
section
variable {X : Cx} {pins : List (Addr × Obj)} {σ : L2.St} {H : Hp} {s : Shared} {E : Value → Shared → Prop}
end
section
variable {X : Cx}
end
end SCo

/-! a dict of one's own by tuples, whose values are lists of one's own -/
namespace DL
open L2 PySem PySem.Spec PyProof.Rows SCo
open Evl (Ex ex_l ex_t sz_of)
section
variable {K : PySem.W.Frag} {T : Tb} {S : SA} {E : XK} {Hb H Hb1 H1 H0 : Hp} {n n1 : Nat} {te tk tv : TE} {FE : DT}
/-! ### the dict stands -/
structure Lots (K : PySem.W.Frag) (S : SA) (H0 : Hp) (i : Nat) (p : Addr) (ks : List (List Key)) (ls : List Addr) (σ : L2.St) (Hb H : Hp) (xss : List (List D)) : Prop where
  sl : σ[i]? = some (some (.ref p))
  dp : ∃ kvs, H p = some (.dT kvs) ∧ kvs.map (·.1) = ks ∧ kvs.map (·.2) = ls.map V.ref
  hb : Hb p = none
  na : p ≠ S.a
  nl : p ≠ S.l
  kn : ks.Nodup
  nd : ls.Nodup
  ln : ls.length = xss.length
  lst : ∀ (j : Nat) (l : Addr) (xs : List D), ls[j]? = some l → xss[j]? = some xs → ∃ vs, H l = some (.lst vs) ∧ Hb l = none ∧ DnA K Hb vs xs
  ap : ∀ l ∈ ls, l ≠ S.a ∧ l ≠ S.l ∧ Fresh H0 l
theorem Lots.step {i : Nat} {p : Addr} {ks : List (List Key)} {ls : List Addr} {σ : L2.St} {xss : List (List D)} (a : Stp K T S Hb H n Hb1 H1 n1) (h : Lots K S H0 i p ks ls σ Hb H xss) : Lots K S H0 i p ks ls σ Hb1 H1 xss where
  sl := h.sl
  dp := let ⟨kvs, e, r⟩ := h.dp; ⟨kvs, (a.own p _ e h.hb h.na h.nl fun _ z => by cases z).1, r⟩
  hb := let ⟨kvs, e, r⟩ := h.dp; (a.own p _ e h.hb h.na h.nl fun _ z => by cases z).2
  na := h.na
  nl := h.nl
  kn := h.kn
  nd := h.nd
  ln := h.ln
  lst := fun j l xs e1 e2 => by
    obtain ⟨vs, g1, g2, g3⟩ := h.lst j l xs e1 e2
    obtain ⟨n1, n2, _⟩ := h.ap l (List.mem_of_getElem? e1)
    obtain ⟨f1, f2⟩ := a.own l _ g1 g2 n1 n2 fun _ z => by cases z
    exact ⟨vs, f1, f2, g3.up a.ex⟩
  ap := h.ap
theorem Lots.slot {i : Nat} {p : Addr} {ks : List (List Key)} {ls : List Addr} {σ σ' : L2.St} {xss : List (List D)} (h : Lots K S H0 i p ks ls σ Hb H xss) (e : σ'[i]? = σ[i]?) : Lots K S H0 i p ks ls σ' Hb H xss :=
  ⟨by rw [e]; exact h.sl, h.dp, h.hb, h.na, h.nl, h.kn, h.nd, h.ln, h.lst, h.ap⟩
def noOwnB (ρ : List SV) : Bool := ρ.all fun s => !isOwn s
structure DEnG where
  nx : List SV → List (List D) → Nat → Prop
  rt : DQ
abbrev DTSG := DEnG → List SV → List (List D) → Nat → DX → Prop
def NxG (K : PySem.W.Frag) (T : Tb) (S : SA) (Hb H : Hp) (n : Nat) (Hc : Hp) (i : Nat) (p : Addr) (ks : List (List Key)) (ls : List Addr) (P : List SV → List (List D) → Nat → Prop) (Q : L2.St → Hp → Prop) : Prop :=
  ∀ ρ xss σ n' Hb' H', Ex Hc Hb' → Stp K T S Hb H n Hb' H' n' → Sl0 K S H Hb' H' n' ρ σ → Lots K S H i p ks ls σ Hb' H' xss → noOwnB ρ = true → P ρ xss n' → Q σ H'
theorem NxG.up {i : Nat} {p : Addr} {ks : List (List Key)} {ls : List Addr} {P : List SV → List (List D) → Nat → Prop} {Q : L2.St → Hp → Prop} {Hc Hc' : Hp} (e : Ex Hc Hc') (h : NxG K T S Hb H n Hc i p ks ls P Q) : NxG K T S Hb H n Hc' i p ks ls P Q :=
  fun ρ xss σ n' Hb' H' e' => h ρ xss σ n' Hb' H' (e.trans e')
variable {i j : Nat} {ks : List (List Key)} {t u : TS} {F G : DTSG}
/-- what the dict holds at its j-th key -/
theorem Lots.at {p : Addr} {ls : List Addr} {σ : L2.St} {xss : List (List D)} (h : Lots K S H0 i p ks ls σ Hb H xss) {j : Nat} {k : List Key} (e : ks[j]? = some k) : ∃ kvs l, H p = some (.dT kvs) ∧ valV kvs k = some (.ref l) ∧ ls[j]? = some l ∧ j < xss.length := by
  obtain ⟨kvs, g1, g2, g3⟩ := h.dp
  have hj : j < kvs.length := by
    have := (List.getElem?_eq_some_iff.mp e).1
    rwa [← g2, List.length_map] at this
  have hjl : j < ls.length := by
    have := congrArg List.length g3
    rw [List.length_map, List.length_map] at this
    omega
  have e1 : kvs[j].1 = k := by
    rw [← g2, List.getElem?_map, List.getElem?_eq_getElem hj] at e
    exact Option.some.inj e
  have e2 : kvs[j].2 = V.ref ls[j] := by
    have z : (kvs.map (·.2))[j]? = (ls.map V.ref)[j]? := by rw [g3]
    rw [List.getElem?_map, List.getElem?_map, List.getElem?_eq_getElem hj, List.getElem?_eq_getElem hjl] at z
    exact Option.some.inj z
  refine ⟨kvs, ls[j], g1, ?_, List.getElem?_eq_getElem hjl, by rw [← h.ln]; exact hjl⟩
  unfold valV
  have kn : (kvs.map (·.1)).Nodup := by rw [g2]; exact h.kn
  cases f : kvs.find? fun kv => decide (kv.1 = k) with
  | none => exact absurd (List.find?_eq_none.mp f kvs[j] (List.getElem_mem hj)) (by simp [e1])
  | some kv =>
    have hm := List.mem_of_find?_eq_some f
    have hk : kv.1 = k := by simpa using List.find?_some f
    obtain ⟨j2, hj2, e3⟩ := List.mem_iff_getElem.mp hm
    have : j2 = j := by
      have a1 : (kvs.map (·.1))[j2]'(by rw [List.length_map]; exact hj2) = (kvs.map (·.1))[j]'(by rw [List.length_map]; exact hj) := by rw [List.getElem_map, List.getElem_map, e3, e1, hk]
      exact (List.getElem_inj kn).mp a1
    subst this
    rw [← e3]
    exact congrArg some e2
end
end DL

/-! == and != of instances whose class has an __eq__ of its own -/
namespace OE
open PySem PySem.Spec PyProof.Rows PySem.SeqAt
section
variable {M : Model} {prog : Program} {w : PySem.World} {A : Around} {E : Value → Shared → Prop} {s : Shared} {K : PySem.W.Frag} {x C f : Addr} {ox : Obj} {od : Option Obj} {b tb : Value}
end
end OE
namespace SCo
open L2 PySem PySem.Spec PyProof.Rows
section
variable {X : Cx} {k : Nat} {C : Addr} {sp : Sp}
end
end SCo
namespace DL
open L2 PySem PySem.Spec PyProof.Rows SCo
open Evl (Ex ex_l ex_t sz_of)
section
variable {K : PySem.W.Frag} {T : Tb} {S : SA} {E : XK} {ta tb : TE} {F G : DT}
end
end DL

/-! d[t], d a dict by tuples of ints that is data -/
namespace DL
open L2 PySem PySem.Spec PyProof.Rows
open Evl (Ex ex_l ex_t sz_of)
section
variable {K : PySem.W.Frag} {T : Tb} {S : SA} {E : XK} {H : Hp}
end
end DL

/-! xs.pop(e) as a statement, xs a list of one's own -/
namespace DL
open L2 PySem PySem.Spec PyProof.Rows
open Evl (Ex ex_l ex_t sz_of)
section
variable {K : PySem.W.Frag} {T : Tb} {S : SA} {E : XK} {te : TE} {FE : DT}
def xsDropPop (j : Nat) (F : DT) : DTS := fun DD ρ n XP => slotO ρ j fun xs => F ρ n (fun d n1 => match d with
  | .int k => ∃ m : Nat, k = (m : Int) ∧ m < 2 ^ 62 ∧ m < xs.length ∧ DD.nx (ρ.set j (.ol (xs.eraseIdx m))) n1
  | _ => False) XP
theorem rds_dropPop {j : Nat} (h1 : DL.Rd K T S E te FE) : RdS K T S E (tDrop (tBM K "list" rPopAt (tVar j) (tCons te tNil))) (xsDropPop j FE) := fun σ ρ Hb0 H0 n0 Hb H n DD XP D a sl h q x => by
  obtain ⟨xs, p, vs, e, es, e3, e4, e5, e6, e8, e7, h⟩ := sl.sl.own h
  refine ⟨.ref p, es, .inl ⟨rfl, vs, SqL.of e3⟩, ?_⟩
  refine h1 σ ρ Hb H n _ XP _ a.wd sl.sl h (fun d v n1 Hb1 H1 s hd pp => ?_) (x.step a)
  obtain ⟨g1, g2⟩ := s.own p _ e3 e4 e5 e6 (fun ps z => by cases z)
  have h7 := e7.up s.ex
  cases hd with
  | int k =>
    obtain ⟨m, rfl, hm, hy, pp⟩ := pp
    obtain ⟨u, eu, hu⟩ := h7.get (List.getElem?_eq_getElem hy)
    have hml : m < vs.length := (List.getElem?_eq_some_iff.mp eu).1
    exact ⟨p, vs, _, m, u, rfl, rfl, g1, by omega, by omega, pop_ix hml, eu, own_stmt (us := vs.eraseIdx m) (ys := xs.eraseIdx m) (a.trans s) (sl.step s) (q.up s.ex) e es g1 g2 e5 e6 e8 (DnA.erase m h7) pp⟩
  | _ => exact pp.elim
end
end DL

/-! xs[a], xs[b] = e, f of a list of one's own; in, not in, index of a list of anything written -/
namespace DL
open L2 PySem PySem.Spec PyProof.Rows SCo
open Evl (Ex ex_l ex_t sz_of)
section
variable {K : PySem.W.Frag} {T : Tb} {S : SA} {E : XK} {te te2 : TE} {FE FE2 : DT}
end
end DL

/-! lambdas as data, and their call -/
namespace DL
open L2 PySem PySem.Spec PyProof.Rows
open Evl (Ex ex_l ex_t sz_of)
section
variable {P : Program} {w : PySem.World} {mg : Str → Option Value} {base : Heap} {K : PySem.W.Frag} {T : Tb} {S : SA} {E : XK} {Hb H Hb1 H1 : Hp} {n n1 k k2 : Nat} {te : TE} {FE : DT} {ta : TA} {GA : DTA}
end
end DL

/-! a walk over a list or a tuple -/
namespace RZ
open PySem PySem.Spec PyProof.Rows L2
end RZ
namespace DL
open L2 PySem PySem.Spec PyProof.Rows
open Evl (Ex ex_l ex_t sz_of)
section
variable {K : PySem.W.Frag} {T : Tb} {S : SA} {E : XK}
end
end DL

/-! all choices of k items, in order, and how one follows the other -/
namespace DL
/-- all lists of k items of a list, in their order -/
def combsL {α : Type} : Nat → List α → List (List α)
  | 0, _ => [[]]
  | _ + 1, [] => []
  | k + 1, x :: xs => (combsL k xs).map (x :: ·) ++ combsL (k + 1) xs
theorem combsL_map {α β : Type} (f : α → β) : ∀ (k : Nat) (xs : List α), combsL k (xs.map f) = (combsL k xs).map (List.map f)
  | 0, _ => by simp [combsL]
  | _ + 1, [] => by simp [combsL]
  | k + 1, x :: xs => by
    rw [List.map_cons, combsL, combsL, combsL_map f k xs, combsL_map f (k + 1) xs, List.map_append, List.map_map, List.map_map]
    rfl
theorem combsL_len {α : Type} : ∀ {k : Nat} {xs c : List α}, c ∈ combsL k xs → c.length = k
  | 0, xs, c, h => by
    simp [combsL] at h
    rw [h]
    rfl
  | _ + 1, [], c, h => by simp [combsL] at h
  | k + 1, x :: xs, c, h => by
    rw [combsL, List.mem_append] at h
    rcases h with h | h
    · obtain ⟨d, hd, rfl⟩ := List.mem_map.mp h
      rw [List.length_cons, combsL_len hd]
    · exact combsL_len h
/-- a choice behind another one -/
def nextC (n : Nat) : List Nat → Option (List Nat)
  | [] => none
  | i :: is => match nextC n is with
    | some js => some (i :: js)
    | none => if i ≠ n - (is.length + 1) then some (List.range' (i + 1) (is.length + 1)) else none
theorem combs_range : ∀ (t m r : Nat), (∀ (k : Nat) (is : List Nat), (combsL r (List.range' m t))[k]? = some is → (∀ i ∈ is, m ≤ i ∧ i < m + t) ∧ r ≤ t ∧ (combsL r (List.range' m t))[k + 1]? = nextC (m + t) is) ∧
    (combsL r (List.range' m t))[0]? = if r ≤ t then some (List.range' m r) else none
  | t, m, 0 => by
    refine ⟨fun k is h => ?_, by simp [combsL]⟩
    rw [combsL] at h ⊢
    cases k with
    | zero =>
      simp at h
      subst h
      exact ⟨by simp, Nat.zero_le _, rfl⟩
    | succ k => simp at h
  | 0, m, r + 1 => by simp [combsL]
  | t + 1, m, r + 1 => by
    obtain ⟨a1, a0⟩ := combs_range t (m + 1) r
    obtain ⟨b1, b0⟩ := combs_range t (m + 1) (r + 1)
    have e : combsL (r + 1) (List.range' m (t + 1)) = (combsL r (List.range' (m + 1) t)).map (m :: ·) ++ combsL (r + 1) (List.range' (m + 1) t) := by
      rw [List.range'_succ, combsL]
    generalize combsL (r + 1) (List.range' m (t + 1)) = L at e ⊢
    subst e
    have al : ∀ c ∈ combsL r (List.range' (m + 1) t), c.length = r := fun c hc => combsL_len hc
    generalize combsL r (List.range' (m + 1) t) = A at a1 a0 al ⊢
    generalize combsL (r + 1) (List.range' (m + 1) t) = B at b1 b0 ⊢
    have emt : m + 1 + t = m + (t + 1) := by omega
    rw [emt] at a1 b1
    refine ⟨fun k is h => ?_, ?_⟩
    · rcases Nat.lt_or_ge k A.length with hk | hk
      · rw [List.getElem?_append_left (by rw [List.length_map]; exact hk), List.getElem?_map] at h
        obtain ⟨js, hj, rfl⟩ := Option.map_eq_some_iff.mp h
        obtain ⟨c1, c2, c3⟩ := a1 k js hj
        have hl : A[k]? = some js := hj
        refine ⟨fun i hi => ?_, by omega, ?_⟩
        · rcases List.mem_cons.mp hi with rfl | hi
          · omega
          · have := c1 i hi
            omega
        · rw [nextC]
          cases hn : nextC (m + (t + 1)) js with
          | some js' =>
            rw [hn] at c3
            have := (List.getElem?_eq_some_iff.mp c3).1
            rw [List.getElem?_append_left (by rw [List.length_map]; exact this), List.getElem?_map, c3]
            rfl
          | none =>
            rw [hn] at c3
            have hk1 := List.getElem?_eq_none_iff.mp c3
            have ek : k + 1 = A.length := by omega
            rw [List.getElem?_append_right (by rw [List.length_map]; omega), List.length_map, ek, Nat.sub_self, b0]
            have hr := al js (List.mem_of_getElem? hj)
            rw [hr]
            by_cases h1 : r + 1 ≤ t
            · rw [if_pos h1]
              show _ = if m ≠ m + (t + 1) - (r + 1) then _ else _
              rw [if_pos (by omega)]
            · rw [if_neg h1]
              show _ = if m ≠ m + (t + 1) - (r + 1) then _ else _
              rw [if_neg (by omega)]
      · rw [List.getElem?_append_right (by rw [List.length_map]; exact hk), List.length_map] at h
        obtain ⟨c1, c2, c3⟩ := b1 _ is h
        refine ⟨fun i hi => by have := c1 i hi; omega, by omega, ?_⟩
        rw [List.getElem?_append_right (by rw [List.length_map]; omega), List.length_map, ← c3]
        congr 1
        omega
    · by_cases h : r ≤ t
      · rw [if_pos h] at a0
        have := (List.getElem?_eq_some_iff.mp a0).1
        rw [List.getElem?_append_left (by rw [List.length_map]; exact this), List.getElem?_map, a0, if_pos (by omega), List.range'_succ]
        rfl
      · rw [if_neg h] at a0
        have := List.getElem?_eq_none_iff.mp a0
        rw [List.getElem?_append_right (by rw [List.length_map]; omega), List.length_map, show 0 - A.length = 0 by omega, b0, if_neg (by omega), if_neg (by omega)]
theorem combs_next {n r k : Nat} {is : List Nat} (h : (combsL r (List.range n))[k]? = some is) : (∀ i ∈ is, i < n) ∧ is.length = r ∧ r ≤ n ∧ (combsL r (List.range n))[k + 1]? = nextC n is := by
  have l := combsL_len (List.mem_of_getElem? h)
  rw [List.range_eq_range'] at h ⊢
  have z := (combs_range n 0 r).1 k is h
  rw [Nat.zero_add] at z
  exact ⟨fun i hi => (z.1 i hi).2, l, z.2.1, z.2.2⟩
theorem combs_first (n r : Nat) : (combsL r (List.range n))[0]? = if r ≤ n then some (List.range r) else none := by
  rw [List.range_eq_range', List.range_eq_range']
  exact (combs_range n 0 r).2
/-- the step of the model's own -/
def nextM (n : Nat) (indices : List Nat) : Option (List Nat) := match List.find? (fun i => indices.getD i 0 != i + n - indices.length) (List.range indices.length).reverse with
  | none => none
  | some i => some (List.take i indices ++ List.map (fun x => indices.getD i 0 + 1 + x) (List.range (indices.length - i)))
theorem find_succ {p : Nat → Bool} (r : Nat) : List.find? p (List.range (r + 1)).reverse = match List.find? (fun i => p (i + 1)) (List.range r).reverse with
    | some j => some (j + 1)
    | none => if p 0 = true then some 0 else none := by
  rw [List.range_succ_eq_map, List.reverse_cons, List.find?_append, ← List.map_reverse, List.find?_map]
  show (Option.map Nat.succ (List.find? (fun i => p (i + 1)) _)).or _ = _
  cases List.find? (fun i => p (i + 1)) (List.range r).reverse with
  | some j => rfl
  | none =>
    show List.find? p [0] = _
    cases h : p 0 <;> simp [h]
theorem nextM_eq {n : Nat} : ∀ is : List Nat, nextM n is = nextC n is
  | [] => rfl
  | i :: is => by
    have ih := nextM_eq (n := n) is
    unfold nextM at ih ⊢
    rw [List.length_cons, find_succ]
    have e : (fun j => (i :: is).getD (j + 1) 0 != j + 1 + n - (is.length + 1)) = fun j => is.getD j 0 != j + n - is.length := funext fun j => by
      rw [List.getD_cons_succ, show j + 1 + n - (is.length + 1) = j + n - is.length by omega]
    rw [e, nextC]
    cases hf : List.find? (fun j => is.getD j 0 != j + n - is.length) (List.range is.length).reverse with
    | some j =>
      rw [hf] at ih
      rw [← ih]
      show some (List.take (j + 1) (i :: is) ++ _) = some (i :: (List.take j is ++ _))
      rw [List.take_succ_cons, List.cons_append, List.getD_cons_succ, show is.length + 1 - (j + 1) = is.length - j by omega]
    | none =>
      rw [hf] at ih
      rw [← ih]
      show (match (if ((i :: is).getD 0 0 != 0 + n - (is.length + 1)) = true then some 0 else none) with | none => none | some j => _) = _
      rw [List.getD_cons_zero, Nat.zero_add]
      by_cases h : i = n - (is.length + 1)
      · rw [if_neg (by simpa using h), if_neg (by simpa using h)]
      · rw [if_pos (by simpa using h), if_pos h]
        show some (List.take 0 (i :: is) ++ List.map (fun x => (i :: is).getD 0 0 + 1 + x) (List.range (is.length + 1 - 0))) = _
        rw [List.take_zero, List.nil_append, List.getD_cons_zero, Nat.sub_zero, List.range'_eq_map_range]
end DL

/-! combinations of any items, of any size: the object and its steps -/
namespace RZ
open PySem PySem.Spec PyProof.Rows L2
open AutoSeq1 (wpAny_loadPart')
/-- the object of combinations: its pool, its state, the choice told last, the indices -/
def cnObj (p : Addr) (st : Int) (old : Value) (is : List Nat) : Obj := { cls := .type "itertools.combinations", data := .fields ([Value.ref p, rawInt st, old] ++ is.map fun (i : Nat) => rawInt (i : Int)).toArray }
structure IsCn (h : Heap) (c p : Addr) (items : Array Value) (st : Int) (old : Value) (is : List Nat) : Prop where
  obj : h.get? c = some (cnObj p st old is)
  pool : h.get? p = some (tupObj items)
  ne : c ≠ p
theorem cn_set2 {a b c x : Value} {l : List Value} : ([a, b, c] ++ l).toArray.setIfInBounds 2 x = ([a, b, x] ++ l).toArray := by
  rw [List.setIfInBounds_toArray]
  rfl
theorem cn_set1 {a b c x : Value} {l : List Value} : ([a, b, c] ++ l).toArray.setIfInBounds 1 x = ([a, x, c] ++ l).toArray := by
  rw [List.setIfInBounds_toArray]
  rfl
theorem cn_nums {a b c : Value} {is : List Nat} {f : Value → Nat} (h : ∀ i : Nat, f (rawInt (i : Int)) = i) : List.map f (List.drop 3 ([a, b, c] ++ is.map fun (i : Nat) => rawInt (i : Int)).toArray.toList) = is := by
  show List.map f (is.map fun (i : Nat) => rawInt (i : Int)) = is
  rw [List.map_map]
  show List.map (fun i : Nat => f (rawInt (i : Int))) is = is
  simp only [h]
  exact List.map_id' _
theorem cn_cut {a b c : Value} {l m : List Value} : ([a, b, c] ++ l).toArray.extract 0 3 ++ m.toArray = ([a, b, c] ++ m).toArray := by
  simp
def picks (items : Array Value) (is : List Nat) : Array Value := (is.map fun i => items.getD i .none).toArray
/-- what a choice told leaves behind -/
theorem cn_after {h h0 : Heap} {c p : Addr} {items : Array Value} {old : Value} {is : List Nat} (o0 : Obj) (g : h.get? c = some o0) (hp : h.get? p = some (tupObj items)) (hne : c ≠ p)
    (h1 : h0.get? c = some (cnObj p 1 old is)) (hz : h0.objs.size = h.objs.size) (ho : ∀ b, b ≠ c → h0.get? b = h.get? b) (us : Array Value) (h' : Heap)
    (e : h' = (h0.push (tupObj us)).update c (Obj.mapFields fun x => x.setIfInBounds 2 (.ref h0.objs.size))) :
    IsCn h' c p items 1 (.ref h.objs.size) is ∧ h'.get? h.objs.size = some (tupObj us) ∧ (∀ b o, b ≠ c → h.get? b = some o → h'.get? b = some o) ∧ h'.objs.size = h.objs.size + 1 := by
  subst e
  have hlt : c < h.objs.size := Heap.lt_size g
  rw [hz]
  have k : ∀ b o, b ≠ c → h.get? b = some o → ((h0.push (tupObj us)).update c (Obj.mapFields fun x => x.setIfInBounds 2 (.ref h.objs.size))).get? b = some o := fun b o hb q => by
    rw [Heap.get?_update_ne _ _ _ _ hb]
    exact Heap.get?_push_of_some _ ((ho b hb).trans q)
  refine ⟨⟨?_, k p _ (Ne.symm hne) hp, hne⟩, ?_, k, ?_⟩
  · rw [Heap.get?_update_self _ (Heap.get?_push_of_some _ h1) rfl]
    show some (Obj.mapFields (fun x => x.setIfInBounds 2 (.ref h.objs.size)) (cnObj p 1 old is)) = _
    unfold Obj.mapFields cnObj
    show some ({ cls := .type "itertools.combinations", data := Data.fields (([Value.ref p, rawInt 1, old] ++ _).toArray.setIfInBounds 2 (.ref h.objs.size)) } : Obj) = _
    rw [cn_set2]
  · rw [Heap.get?_update_ne _ _ _ _ (Nat.ne_of_gt hlt), ← hz]
    exact Heap.get?_push_size _ rfl
  · rw [Heap.size_update, Heap.size_push, hz]
section
variable {prog : Program} {w : World} {A : Around} {E : Value → Shared → Prop} {s : Shared} {c p : Addr} {items : Array Value}
theorem cn_next0 {Q : Option Value → Shared → Prop} {is : List Nat} (hz : is.length ≤ sizeLine) (hb : IsCn s.heap c p items 0 .none is)
    (hQ : ∀ h', IsCn h' c p items 1 (.ref s.heap.objs.size) is → h'.get? s.heap.objs.size = some (tupObj (picks items is)) →
      (∀ b o, b ≠ c → s.heap.get? b = some o → h'.get? b = some o) → h'.objs.size = s.heap.objs.size + 1 → Q (some (.ref s.heap.objs.size)) { s with heap := h' }) :
    wpAny (model prog w) A (pyNext (.ref c)) Q E s := by
  obtain ⟨hc, hp, hne⟩ := hb
  have hT : s.TypeIs (.ref c) "itertools.combinations" := ⟨_, hc, rfl⟩
  unfold pyNext
  refine wpAny_bind (wpAny_attempt (wpAny_callSpecial?_slot (name := Str.ofString "__next__") hT Cb.slot_comb_next
      (wpAny_call_entry Cb.slot_comb_next hT Cb.entry_comb_next ?_ (Cb.args_comb_next _))))
  unfold Builtin.«itertools.combinations.__next__»
  have hc' : s.heap.get? c = some { cls := .type "itertools.combinations", data := .fields ([Value.ref p, rawInt 0, .none] ++ is.map fun (i : Nat) => rawInt (i : Int)).toArray } := hc
  have hp' : s.heap.get? p = some { cls := .type "tuple", data := .seq items } := hp
  wp_walk using wpAny_loadPart' hc', wpAny_loadPart' hp', wpAny_load' hc', wpAny_load' hp'
  refine ⟨_, rfl, wpAny_pure ?_⟩
  rw [cn_nums]
  rotate_left
  · exact fun i => by rfl
  have z := cn_after (h0 := s.heap.update c (Obj.mapFields fun x => x.setIfInBounds 1 (rawInt 1))) (old := .none) (is := is) (items := items) _ hc hp hne (by
    rw [Heap.get?_update_self _ hc rfl]
    show some ({ cls := .type "itertools.combinations", data := Data.fields (([Value.ref p, rawInt 0, Value.none] ++ _).toArray.setIfInBounds 1 (rawInt 1)) } : Obj) = _
    rw [cn_set1]
    rfl) (Heap.size_update ..) (fun b hb => Heap.get?_update_ne _ _ _ _ hb) (picks items is) _ rfl
  have zz := hQ _ z.1 z.2.1 z.2.2.1 z.2.2.2
  rw [Heap.size_update] at zz
  rw [Heap.size_update]
  exact zz
theorem cn_next1 {Q : Option Value → Shared → Prop} {old : Value} {is js : List Nat} (hz : js.length ≤ sizeLine) (hb : IsCn s.heap c p items 1 old is) (hn : DL.nextM items.size is = some js)
    (hQ : ∀ h', IsCn h' c p items 1 (.ref s.heap.objs.size) js → h'.get? s.heap.objs.size = some (tupObj (picks items js)) →
      (∀ b o, b ≠ c → s.heap.get? b = some o → h'.get? b = some o) → h'.objs.size = s.heap.objs.size + 1 → Q (some (.ref s.heap.objs.size)) { s with heap := h' }) :
    wpAny (model prog w) A (pyNext (.ref c)) Q E s := by
  obtain ⟨hc, hp, hne⟩ := hb
  have hT : s.TypeIs (.ref c) "itertools.combinations" := ⟨_, hc, rfl⟩
  unfold pyNext
  refine wpAny_bind (wpAny_attempt (wpAny_callSpecial?_slot (name := Str.ofString "__next__") hT Cb.slot_comb_next
      (wpAny_call_entry Cb.slot_comb_next hT Cb.entry_comb_next ?_ (Cb.args_comb_next _))))
  unfold Builtin.«itertools.combinations.__next__»
  have hc' : s.heap.get? c = some { cls := .type "itertools.combinations", data := .fields ([Value.ref p, rawInt 1, old] ++ is.map fun (i : Nat) => rawInt (i : Int)).toArray } := hc
  have hp' : s.heap.get? p = some { cls := .type "tuple", data := .seq items } := hp
  wp_walk using wpAny_loadPart' hc', wpAny_loadPart' hp', wpAny_load' hc', wpAny_load' hp'
  rw [cn_nums]
  rotate_left
  · exact fun i => by rfl
  split
  · rename_i next heq
    have e : next = js := by
      have q : DL.nextM items.size is = some next := heq
      rw [hn] at q
      exact (Option.some.inj q).symm
    subst e
    clear heq
    unfold Builtin.Itertools.itSetNumbersFrom
    refine wpAny_bind (wpAny_updateFields hc' rfl ?_ (by rw [cn_cut]; simp; omega))
    have g1 : (s.heap.update c (Obj.mapFields fun fs => fs.extract 0 3 ++ (List.map (fun (n : Nat) => rawInt n) next).toArray)).get? c = some { cls := .type "itertools.combinations", data := .fields ([Value.ref p, rawInt 1, old] ++ next.map fun (i : Nat) => rawInt (i : Int)).toArray } := by
      rw [Heap.get?_update_self _ hc rfl]
      show some ({ cls := .type "itertools.combinations", data := Data.fields (([Value.ref p, rawInt 1, old] ++ _).toArray.extract 0 3 ++ _) } : Obj) = _
      rw [cn_cut]
    have g3 : ∀ b, b ≠ c → (s.heap.update c (Obj.mapFields fun fs => fs.extract 0 3 ++ (List.map (fun (n : Nat) => rawInt n) next).toArray)).get? b = s.heap.get? b := fun b hb => Heap.get?_update_ne _ _ _ _ hb
    have g4 : (s.heap.update c (Obj.mapFields fun fs => fs.extract 0 3 ++ (List.map (fun (n : Nat) => rawInt n) next).toArray)).objs.size = s.heap.objs.size := Heap.size_update ..
    have g2 := (g3 p (Ne.symm hne)).trans hp'
    generalize (s.heap.update c (Obj.mapFields fun fs => fs.extract 0 3 ++ (List.map (fun (n : Nat) => rawInt n) next).toArray)) = h1 at g1 g2 g3 g4 ⊢
    wp_walk using wpAny_loadPart' g1, wpAny_loadPart' g2, wpAny_load' g1, wpAny_load' g2
    refine ⟨_, rfl, wpAny_pure ?_⟩
    have z := cn_after (h0 := h1) (old := old) (is := next) (items := items) _ hc hp hne g1 g4 g3 (picks items next) _ rfl
    have zz := hQ _ z.1 z.2.1 z.2.2.1 z.2.2.2
    rw [← g4] at zz
    exact zz
  · rename_i heq
    exfalso
    have q : DL.nextM items.size is = none := heq
    rw [hn] at q
    cases q
theorem cn_stop {Q : Option Value → Shared → Prop} {st : Int} {old : Value} {is : List Nat} (hh : A.handled = none) (hb : IsCn s.heap c p items st old is)
    (hn : st = 2 ∨ (st = 1 ∧ DL.nextM items.size is = none))
    (hQ : ∀ h', (∀ b o, b ≠ c → s.heap.get? b = some o → h'.get? b = some o) → Q none { s with heap := h' }) :
    wpAny (model prog w) A (pyNext (.ref c)) Q E s := by
  obtain ⟨hc, hp, hne⟩ := hb
  have hT : s.TypeIs (.ref c) "itertools.combinations" := ⟨_, hc, rfl⟩
  unfold pyNext
  refine wpAny_bind (wpAny_attempt (wpAny_callSpecial?_slot (name := Str.ofString "__next__") hT Cb.slot_comb_next
      (wpAny_call_entry Cb.slot_comb_next hT Cb.entry_comb_next ?_ (Cb.args_comb_next _))))
  unfold Builtin.«itertools.combinations.__next__»
  have hi : A.in1.handled = none := hh
  have hp' : s.heap.get? p = some { cls := .type "tuple", data := .seq items } := hp
  have fin : ∀ (s1 : Shared) (a : Addr) (o : Obj), (∀ b o, b ≠ c → s.heap.get? b = some o → s1.heap.get? b = some o) → s1 = { s with heap := s1.heap } → s1.heap.get? a = some o → o.cls = .type "StopIteration" →
      wpAny (model prog w) A (do if ← isInstance (.ref a) (.type "StopIteration") then pure none else throw (.ref a)) Q E s1 := fun s1 a o k z ho hcl =>
    wpAny_bind (wpAny_isInstance (T := "StopIteration") (b := true) ⟨o, ho, hcl⟩ isSubtype_stop (wpAny_pure (by rw [z]; exact hQ _ k)))
  rcases hn with rfl | ⟨rfl, hn⟩
  · have hc' : s.heap.get? c = some { cls := .type "itertools.combinations", data := .fields ([Value.ref p, rawInt 2, old] ++ is.map fun (i : Nat) => rawInt (i : Int)).toArray } := hc
    wp_walk using wpAny_loadPart' hc', wpAny_loadPart' hp', wpAny_load' hc', wpAny_load' hp', it_stop hi
    exact fun h' a o k ho hcl => fin { s with heap := h' } a o (fun b o _ q => k b o q) rfl ho hcl
  · have hc' : s.heap.get? c = some { cls := .type "itertools.combinations", data := .fields ([Value.ref p, rawInt 1, old] ++ is.map fun (i : Nat) => rawInt (i : Int)).toArray } := hc
    wp_walk using wpAny_loadPart' hc', wpAny_loadPart' hp', wpAny_load' hc', wpAny_load' hp', it_stop hi
    rw [cn_nums]
    rotate_left
    · exact fun i => by rfl
    split
    · rename_i next heq
      exfalso
      have q : DL.nextM items.size is = some next := heq
      rw [hn] at q
      cases q
    · refine wpAny_bind (wpAny_setField hc' rfl (show 1 < _ by simp) ?_)
      refine it_stop hi fun h' a o k ho hcl => ?_
      exact fin { s with heap := h' } a o (fun b o hb q => k b o ((Heap.get?_update_ne _ _ _ _ hb).trans q)) rfl ho hcl
end
end RZ

/-! combinations of a list or a tuple, of any size: the call, the walk -/
namespace RZ
open PySem PySem.Spec PyProof.Rows L2
open AutoSeq1 (wpAny_loadPart')
theorem collect_sq {prog : Program} {w : World} {A : Around} {E : Value → Shared → Prop} {s : Shared} {Q : List Value → Shared → Prop} {it : Addr} {T : String} {o : Obj} {items : Array Value} {n : Nat} (hT : T = "list" ∨ T = "tuple") (ho : s.heap.get? it = some o) (hc : o.cls = .type T) (hd : o.data = .seq items n) (hz : items.size ≤ sizeLine)
    (hQ : ∀ h' : Heap, (∀ b o', s.heap.get? b = some o' → h'.get? b = some o') → s.heap.objs.size ≤ h'.objs.size → Q items.toList { s with heap := h' }) : wpAny (model prog w) A (collect (.ref it)) Q E s := SCo.gathered it hT ho hc hd hz hQ
theorem meets_combN (prog : Program) (w : World) (a : Addr) (r : Int) (k : Tok) (T : String) (o : Obj) (items : Array Value) (n : Nat) :
    MeetsIn prog w (Builtin.«itertools.combinations.__new__» ⟨[.type "itertools.combinations", .ref a, .int r k], []⟩) (fun A R s => (T = "list" ∨ T = "tuple") ∧ s.heap.get? a = some o ∧ o.cls = .type T ∧ o.data = .seq items n ∧ items.size ≤ sizeLine ∧ 0 ≤ r ∧ r ≤ 1000 ∧
      ∀ (h' : Heap), (∀ b o, s.heap.get? b = some o → h'.get? b = some o) → s.heap.objs.size ≤ h'.objs.size →
        R (.ok (.ret (.ref (h'.push (tupObj items)).objs.size))) { s with heap := (h'.push (tupObj items)).push (cnObj h'.objs.size (if r.toNat > items.size then 2 else 0) .none (List.range r.toNat)) }) :=
  .of_wp fun A R s h => by
    obtain ⟨hT, ho, hcl, hd, hz, r0, r1, h⟩ := h
    have hsub : isSubtype (.type "itertools.combinations") (.type ("itertools." ++ "combinations")) = pure true := Cb.sub_comb
    have b1 : (decide (r < -2 ^ 63) || decide (r ≥ 2 ^ 63)) = false := by
      rw [decide_eq_false (by omega), decide_eq_false (by omega)]
      rfl
    have b2 : ¬ r < 0 := by omega
    have b3 : Builtin.Itertools.itTooMany r = false := decide_eq_false (by omega)
    unfold Builtin.«itertools.combinations.__new__»
    wp_walk
    rw [if_neg (by rw [b1]; decide)]
    wp_walk using collect_sq hT ho hcl hd hz
    intro h' hk hs
    rw [if_neg b2]
    wp_walk
    have b4 : 1003 ≤ sizeLine := by decide
    rw [if_neg (by simp; omega)]
    unfold newObjAsIs
    wp_walk
    exact ⟨_, rfl, h h' hk hs⟩
open DL (combsL nextC nextM nextM_eq combs_next combs_first)
def IteN (xs : List V) (r : Nat) : It :=
  ⟨fun i _ => i < (combsL r (List.range xs.length)).length, fun i H v H' => ∃ T is, v = .ref T ∧ H T = none ∧ H' = upd H T (.tup (is.map fun j => xs.getD j .non)) ∧ (combsL r (List.range xs.length))[i]? = some is,
   fun i _ => (combsL r (List.range xs.length)).length ≤ i⟩
/-- where combinations stands at the i-th turn -/
def CnTn (xs : List V) (r : Nat) (c p : Addr) (i : Nat) (h : Heap) : Prop := ∃ items st old is, IsCn h c p items st old is ∧ Vals xs items.toList ∧
  ((i = 0 ∧ r ≤ xs.length ∧ st = 0 ∧ old = .none ∧ is = List.range r) ∨ (xs.length < r ∧ st = 2) ∨ ∃ k, i = k + 1 ∧ st = 1 ∧ (combsL r (List.range xs.length))[k]? = some is)
theorem cn_item {xs : List V} {items : Array Value} (h : Vals xs items.toList) {j : Nat} (hj : j < xs.length) : RelV (xs.getD j .non) (items.getD j .none) := by
  obtain ⟨u, e, r⟩ := h.get (List.getElem?_eq_getElem hj)
  have e2 : items.getD j .none = u := by
    rw [Array.getD_eq_getD_getElem?, ← Array.getElem?_toList, e]
    rfl
  rw [e2, List.getD_eq_getElem?_getD, List.getElem?_eq_getElem hj]
  exact r
theorem cn_items {xs : List V} {items : Array Value} (h : Vals xs items.toList) : ∀ {is : List Nat}, (∀ j ∈ is, j < xs.length) → Vals (is.map fun j => xs.getD j .non) (is.map fun j => items.getD j .none)
  | [], _ => .nil
  | j :: is, hj => .cons (cn_item h (hj j (List.mem_cons_self ..))) (cn_items h fun k hk => hj k (List.mem_cons_of_mem _ hk))
theorem cn_size {xs : List V} {items : Array Value} (h : Vals xs items.toList) : items.size = xs.length := by
  rw [← Array.length_toList]
  exact h.length.symm
theorem turn_combN {P : Program} {w : World} {K : PySem.W.Frag} {tg : Expr} (xs : List V) (r : Nat) (hr : r ≤ 1000) (c p : Addr) (hne : c ≠ p) : Turn P w K tg (IteN xs r) [c, p] c (CnTn xs r c p) where
  mem := by simp
  obj := fun i h st b hb => by
    obtain ⟨items, st, old, is, hb1, _⟩ := st
    rcases List.mem_cons.mp hb with z | hb
    · rw [z]; exact ⟨_, hb1.obj, fun v q => nomatch q⟩
    · rw [List.mem_singleton.mp hb]; exact ⟨_, hb1.pool, fun v q => nomatch q⟩
  keep := fun i h h' st k => let ⟨items, st, old, is, hb1, r⟩ := st; ⟨items, st, old, is, ⟨k c (by simp) _ hb1.obj, k p (by simp) _ hb1.pool, hb1.ne⟩, r⟩
  item := by
    intro X hP hw hK hc i pins s σ H E I hf st hg
    subst hP hw hK
    obtain ⟨items, st, old, is0, hb, hit, q⟩ := st
    have hcl : c < s.heap.objs.size := Heap.lt_size hb.obj
    have hpl : p < s.heap.objs.size := Heap.lt_size hb.pool
    obtain ⟨is, his⟩ : ∃ q, (combsL r (List.range xs.length))[i]? = some q := ⟨_, List.getElem?_eq_getElem hg⟩
    obtain ⟨hin, hln, hrn, _⟩ := combs_next his
    have b4 : 1003 ≤ sizeLine := by decide
    have hz : is.length ≤ sizeLine := by omega
    have fin : ∀ h', IsCn h' c p items 1 (.ref s.heap.objs.size) is → h'.get? s.heap.objs.size = some (tupObj (picks items is)) →
        (∀ b o, b ≠ c → s.heap.get? b = some o → h'.get? b = some o) → h'.objs.size = s.heap.objs.size + 1 →
        ∃ u, some (Value.ref s.heap.objs.size) = some u ∧ wpAny (model X.prog X.w) X.A (letOwnedTupleGo tg (.ref c) u) (fun _ s2 => ∃ x H', Inv X pins σ H' s2 ∧ RelV x u ∧ (IteN xs r).yld i H x H' ∧ CnTn xs r c p (i + 1) s2.heap ∧ ∀ b ∈ [c, p], H' b = none) E { s with heap := h' } := fun h' hb' hT hk hsz => by
      refine ⟨_, rfl, go_of (n := "itertools.combinations") hb'.obj rfl rfl (by decide) ?_⟩
      have new : ObjOk X.prog X.w (upd H s.heap.objs.size (.tup (is.map fun j => xs.getD j .non))) h' s.heap.objs.size (.tup (is.map fun j => xs.getD j .non)) :=
        ⟨by rw [List.length_map]; exact hz, _, cn_items hit hin, ⟨_, hT, rfl, _, rfl⟩⟩
      have I1 : Inv X pins σ (upd H s.heap.objs.size (.tup (is.map fun j => xs.getD j .non))) { s with heap := h' } :=
        I.turnedNew (ch := [c, p]) (fun b ob hb q => hk b ob (fun z => hb (by simp [z])) q) hf (Nat.le_refl _) new
      refine ⟨.ref s.heap.objs.size, _, I1, rfl, ⟨_, is, rfl, I.hok.fresh (Nat.le_refl _), rfl, his⟩, ⟨items, 1, _, is, hb', hit, .inr (.inr ⟨i, rfl, rfl, his⟩)⟩, fun d hd => ?_⟩
      have hd' : d < s.heap.objs.size := by
        rcases List.mem_cons.mp hd with z | hd
        · rw [z]; exact hcl
        · rw [List.mem_singleton.mp hd]; exact hpl
      rw [upd_ne (Nat.ne_of_lt hd')]
      exact (hf d hd).1
    rcases q with ⟨rfl, h2, rfl, rfl, rfl⟩ | ⟨h2, _⟩ | ⟨k, rfl, rfl, hk⟩
    · rw [combs_first, if_pos h2] at his
      cases his
      exact cn_next0 hz hb fin
    · omega
    · obtain ⟨p1, p2, p3, p4⟩ := combs_next hk
      rw [p4] at his
      exact cn_next1 hz hb (by rw [cn_size hit, nextM_eq]; exact his) fin
  done := by
    intro X hP hw hK hc i pins s σ H E I hf st hg
    subst hP hw hK
    obtain ⟨items, st, old, is0, hb, hit, q⟩ := st
    obtain ⟨f0, f1, f2, f3, f4, f5⟩ := hf c (by simp)
    have hno : (combsL r (List.range xs.length))[i]? = none := List.getElem?_eq_none hg
    refine cn_stop (I.ok.hd hc) hb ?_ fun h' k => ⟨rfl, I.turned (t' := s.toks) (fun b o hb q => k b o hb q) f0 f1 f3 f4 f5⟩
    rcases q with ⟨rfl, h2, _⟩ | ⟨_, h2⟩ | ⟨k, rfl, rfl, hk⟩
    · rw [combs_first, if_pos h2] at hno
      cases hno
    · exact .inl h2
    · obtain ⟨p1, p2, p3, p4⟩ := combs_next hk
      rw [p4] at hno
      exact .inr ⟨rfl, by rw [cn_size hit, nextM_eq]; exact hno⟩
  self := fun A i s Q E st h => by
    obtain ⟨items, st, old, is, hb, hit, q⟩ := st
    have hT : s.TypeIs (.ref c) "itertools.combinations" := ⟨_, hb.obj, rfl⟩
    refine wpAny_pyIter_slot hT Cb.slot_comb_iter (wpAny_call_entry Cb.slot_comb_iter hT Cb.entry_comb_iter ?_ (Cb.args_comb_iter _))
    show wpAny _ _ (ret (.ref c)) _ _ s
    exact wpAny_pure ⟨_, rfl, "itertools.combinations", _, hT, Cb.slot_comb_next.lookup, h⟩
def iCombN (K : PySem.W.Frag) (ta : TA) : TI := fun σ H R => ta σ H fun vs H1 => ∃ (a : Addr) (xs : List V) (r : Int), vs = [.ref a, .int r] ∧ (SqL K H1 a xs ∨ SqT K H1 a xs) ∧ 0 ≤ r ∧ r ≤ 1000 ∧ R (IteN xs r.toNat) H1
theorem pi_combN {X : Cx} {tg e e2 : Expr} {ta : TA} {p pos : Pos} (hgc : Gl X "combinations") (hmc : X.mg "combinations" = some (.type "itertools.combinations")) (ha : PA X [e, e2] ta) (hc : X.calm = true := by rfl)
    (hs : starEach [e, e2] X.env = (false, eval e X.env) :: starEach [e2] X.env := by rfl) (hpl : (backTo pos (starEach [e2] X.env)).any (·.1) = false := by rfl) :
    PI X tg (.Call (.Name "combinations" p) [e, e2] [] pos) (iCombN X.K ta) := by
  refine ⟨fun pins s σ H R I h => ?_⟩
  refine Call_ (ld_glob I hgc hmc (PyProof.Rows.callWith_type1 (thn (ha.run pos pins s σ H _ I h) fun us s1 ⟨vs, H1, I1, r1, q1⟩ => ?_) hs hpl))
  obtain ⟨a, xs, j, ex, hq, b1, b2, q⟩ := q1
  subst ex
  cases r1 with
  | cons r rr =>
    cases rr with
    | cons r' rr =>
      cases rr
      cases r
      obtain ⟨t, rfl⟩ := r'
      obtain ⟨T, o, its, n, hT, ho, hcl, hd, hz, rv⟩ : ∃ (T : String) (o : Obj) (its : List Value) (n : Nat), (T = "list" ∨ T = "tuple") ∧ s1.heap.get? a = some o ∧ o.cls = .type T ∧ o.data = .seq its.toArray n ∧ its.length ≤ sizeLine ∧ Vals xs its := by
        rcases hq with hq | hq
        · obtain ⟨its, rv, p, hz⟩ := I1.list hq
          obtain ⟨o, g1, g2, n, g3⟩ := p.isList
          exact ⟨"list", o, its, n, .inl rfl, g1, g2, g3, by rw [← rv.length]; exact hz, rv⟩
        · obtain ⟨its, rv, p, hz⟩ := I1.tuple hq
          obtain ⟨o, g1, g2, n, g3⟩ := p
          exact ⟨"tuple", o, its, n, .inr rfl, g1, g2, g3, by rw [← rv.length]; exact hz, rv⟩
      refine callType_newIn Cb.called_comb (by decide) (Cb.typeCall_comb _ _) (Cb.newCall_comb _ _) (fun obj => F.args_object_init_3 obj _ _) Cb.entry_comb_new
        (meets_combN X.prog X.w a j t T o its.toArray n)
        ⟨hT, ho, hcl, hd, by simpa using hz, b1, b2, fun h' hk hsz => ?_⟩
      have hz : (h'.push (tupObj its.toArray)).objs.size = h'.objs.size + 1 := Heap.size_push ..
      have I2 : Inv X pins σ H1 { s1 with heap := (h'.push (tupObj its.toArray)).push (cnObj h'.objs.size (if j.toNat > its.toArray.size then 2 else 0) .none (List.range j.toNat)) } :=
        I1.kept (t' := s1.toks) fun b o q => Heap.get?_push_of_some _ (Heap.get?_push_of_some _ (hk b o q))
      have hcn : IsCn ((h'.push (tupObj its.toArray)).push (cnObj h'.objs.size (if j.toNat > its.toArray.size then 2 else 0) .none (List.range j.toNat))) (h'.push (tupObj its.toArray)).objs.size h'.objs.size its.toArray (if j.toNat > its.toArray.size then 2 else 0) .none (List.range j.toNat) :=
        ⟨Heap.get?_push_size _ rfl, Heap.get?_push_of_some _ (Heap.get?_push_size _ rfl), by rw [hz]; exact Nat.succ_ne_self _⟩
      refine ⟨⟨_, hcn.obj, rfl⟩, ?_⟩
      have hx : its.toArray.size = xs.length := by rw [List.size_toArray, rv.length]
      have tn0 : CnTn xs j.toNat (h'.push (tupObj its.toArray)).objs.size h'.objs.size 0 ((h'.push (tupObj its.toArray)).push (cnObj h'.objs.size (if j.toNat > its.toArray.size then 2 else 0) .none (List.range j.toNat))) := by
        refine ⟨its.toArray, _, .none, _, hcn, rv, ?_⟩
        by_cases h2 : j.toNat ≤ xs.length
        · exact .inl ⟨rfl, h2, by rw [if_neg (by omega)], rfl, rfl⟩
        · exact .inr (.inl ⟨by omega, by rw [if_pos (by omega)]⟩)
      refine (turn_combN (K := X.K) (tg := tg) xs j.toNat (by omega) _ _ hcn.ne).self _ 0 _ _ _ tn0 ?_
      refine ⟨_, _, _, _, H1, rfl, I2, turn_combN xs j.toNat (by omega) _ _ hcn.ne, tn0, fun b hb => ?_, q⟩
      have hle : s1.heap.objs.size ≤ b := by
        rcases List.mem_cons.mp hb with z | hb
        · rw [z]; omega
        · rw [List.mem_singleton.mp hb]; exact hsz
      exact I1.fpOk hle (I1.hok.fresh hle)
end RZ
namespace DL
open L2 PySem PySem.Spec PyProof.Rows
open Evl (Ex ex_l ex_t sz_of)
theorem range_getD {α : Type} {z : α} : ∀ xs : List α, (List.range xs.length).map (fun j => xs.getD j z) = xs := fun xs => by
  apply List.ext_getElem?
  intro i
  rw [List.getElem?_map]
  rcases Nat.lt_or_ge i xs.length with h | h
  · rw [List.getElem?_range h, List.getElem?_eq_getElem h]
    show some (xs.getD i z) = _
    rw [List.getD_eq_getElem?_getD, List.getElem?_eq_getElem h]
    rfl
  · rw [List.getElem?_eq_none (by rw [List.length_range]; exact h), List.getElem?_eq_none h]
    rfl
theorem combs_at {α : Type} {z : α} {xs : List α} {r : Nat} : combsL r xs = (combsL r (List.range xs.length)).map fun is => is.map fun j => xs.getD j z := by
  have e := combsL_map (fun j => xs.getD j z) r (List.range xs.length)
  rw [range_getD] at e
  rw [e]
section
variable {K : PySem.W.Frag} {T : Tb} {S : SA} {E : XK} {Hb H Hb1 H1 : Hp} {n n1 : Nat}
theorem DnA.picks {vs : List V} {ds : List D} (h : DnA K Hb vs ds) : ∀ {is : List Nat}, (∀ j ∈ is, j < vs.length) → DnA K Hb (is.map fun j => vs.getD j .non) (is.map fun j => ds.getD j .non)
  | [], _ => .nil
  | j :: is, hj => by
    have hl := hj j (List.mem_cons_self ..)
    obtain ⟨d, e, q⟩ := h.getV (List.getElem?_eq_getElem hl)
    have e1 : vs.getD j .non = vs[j] := by rw [List.getD_eq_getElem?_getD, List.getElem?_eq_getElem hl]; rfl
    have e2 : ds.getD j .non = d := by rw [List.getD_eq_getElem?_getD, e]; rfl
    rw [List.map_cons, List.map_cons, e1, e2]
    exact .cons q (DnA.picks h fun k hk => hj k (List.mem_cons_of_mem _ hk))
def combT (r : Nat) (ds : List D) : List D := (combsL r ds).map D.tup
theorem src_combN {vs : List V} {ds : List D} {r : Nat} (h : DnA K Hb vs ds) : SrcOk K (RZ.IteN vs r) Hb (combT r ds) := fun Hb1 H1 i e1 e2 => by
  have hl := h.len
  unfold combT
  rw [combs_at (z := D.non), ← hl]
  refine ⟨fun hi => by rw [List.length_map, List.length_map] at hi; exact hi, fun d e => ?_⟩
  rw [List.getElem?_map, List.getElem?_map] at e
  obtain ⟨is0, e0, rfl⟩ := Option.map_eq_some_iff.mp e
  obtain ⟨is, ex, rfl⟩ := Option.map_eq_some_iff.mp e0
  refine ⟨(List.getElem?_eq_some_iff.mp ex).1, fun z H' q => ?_⟩
  obtain ⟨p, is', rfl, hp, rfl, f1⟩ := q
  rw [ex] at f1
  cases f1
  have ex2 := Ex.new (o := .tup (is.map fun j => vs.getD j .non)) (free_of e2 hp)
  exact .inr ⟨p, _, hp, rfl, (fun _ z => by cases z), .tup (SqT.of upd_same) (((h.up e1).picks (combs_next ex).1).up ex2)⟩
def xiCombN (G : DTA) : DTI := fun ρ n P XP => G ρ n (fun ss n1 => match ss with
  | [.d (.lst xs), .d (.int j)] => 0 ≤ j ∧ j ≤ 1000 ∧ P (combT j.toNat xs) n1
  | [.d (.tup xs), .d (.int j)] => 0 ≤ j ∧ j ≤ 1000 ∧ P (combT j.toNat xs) n1
  | _ => False) XP
theorem rdi_combN {ta : TA} {GA : DTA} (h1 : RdA K T S E ta GA) : RdI K T S E (RZ.iCombN K ta) (xiCombN GA) := fun σ ρ Hb H n P XP R w sl h q x =>
  h1 σ ρ Hb H n _ XP _ w sl h (fun ss vs n1 Hb1 H1 s ha p => by
    match ss, ha, p with
    | [.d (.lst xs), .d (.int j)], ha, p =>
      obtain ⟨v, u, rfl, hv, hu⟩ := Args.two (ss := []) ha
      cases hu
      cases hv with
      | @lst a as ds g1 g2 => exact ⟨a, as, j, rfl, .inl (ex_l s.wd.ex g1), p.1, p.2.1, q _ n1 Hb1 H1 _ s (src_combN g2) p.2.2⟩
    | [.d (.tup xs), .d (.int j)], ha, p =>
      obtain ⟨v, u, rfl, hv, hu⟩ := Args.two (ss := []) ha
      cases hu
      cases hv with
      | @tup a as ds g1 g2 => exact ⟨a, as, j, rfl, .inr (ex_t s.wd.ex g1), p.1, p.2.1, q _ n1 Hb1 H1 _ s (src_combN g2) p.2.2⟩) x
end
end DL

/-! list(combinations(..)) -/
namespace RZ
open PySem PySem.Calls PyProof.Rows PyProof.V PySem.Spec PySem.W L2
open DL (combsL nextC nextM nextM_eq combs_next combs_first)
/-- where combinations stands at the i-th turn, its items told -/
def CnAt (items : Array Value) (r : Nat) (c p : Addr) (i : Nat) (h : Heap) : Prop := ∃ st old is, IsCn h c p items st old is ∧
  ((i = 0 ∧ r ≤ items.size ∧ st = 0 ∧ old = .none ∧ is = List.range r) ∨ (items.size < r ∧ st = 2) ∨ ∃ k, i = k + 1 ∧ st = 1 ∧ (combsL r (List.range items.size))[k]? = some is)
section
variable {prog : Program} {w : World} {A : Around} {E : Value → Shared → Prop} {s : Shared} {c p : Addr} {items : Array Value} {r i : Nat}
theorem CnAt.there {h : Heap} (st : CnAt items r c p i h) : c < h.objs.size ∧ p < h.objs.size ∧ ∃ o, h.get? c = some o ∧ o.cls = .type "itertools.combinations" := by
  obtain ⟨st, old, is, hb, _⟩ := st
  exact ⟨Heap.lt_size hb.obj, Heap.lt_size hb.pool, _, hb.obj, rfl⟩
theorem CnAt.keep {h h' : Heap} (st : CnAt items r c p i h) (kc : ∀ o, h.get? c = some o → h'.get? c = some o) (kp : ∀ o, h.get? p = some o → h'.get? p = some o) : CnAt items r c p i h' := by
  obtain ⟨st, old, is, hb, q⟩ := st
  exact ⟨st, old, is, ⟨kc _ hb.obj, kp _ hb.pool, hb.ne⟩, q⟩
end
section
variable {prog : Program} {w : World} {A : Around} {s : Shared} {R : Result → Shared → Prop} {c p S : Addr} {items : Array Value} {r N : Nat}
end
end RZ
namespace RZ
open PySem PySem.Spec PyProof.Rows L2
open DL (combsL)
end RZ
namespace DL
open L2 PySem PySem.Spec PyProof.Rows
open Evl (Ex ex_l ex_t sz_of)
section
variable {K : PySem.W.Frag} {T : Tb} {S : SA} {E : XK}
end
end DL

/-! defs that give a new list, not frozen -/
namespace DL
open L2 PySem PySem.Spec PyProof.Rows
open Evl (Ex ex_l ex_t sz_of)
def ROk (K : PySem.W.Frag) (T : Tb) (S : SA) (Hb H : Hp) (n : Nat) (P : List D → Nat → Prop) (Q : VK) : Prop :=
  ∀ ds p vs n' Hb' H', Stp K T S Hb H n Hb' H' n' → Fresh H p → H' p = some (.lst vs) → Hb' p = none → DnA K Hb' vs ds → P ds n' → Q (.ref p) H'
/-- suites that end with the return of a new list -/
abbrev DTR := (List D → Nat → Prop) → List SV → Nat → DX → Prop
def RdSO (K : PySem.W.Frag) (T : Tb) (S : SA) (E : XK) (ts : TS) (G : DTR) : Prop :=
  ∀ σ ρ Hb0 H0 n0 Hb H n P XP D, Stp K T S Hb0 H0 n0 Hb H n → Sl0 K S H0 Hb H n ρ σ → G P ρ n XP → ROk K T S Hb0 H0 n0 P D.rt → XOk K T S Hb0 H0 n0 XP E → ts D σ H
def xoSeq (F : DTS) (G : DTR) : DTR := fun P ρ n XP => F { nx := fun ρ' n' => G P ρ' n' XP, rt := fun _ _ => False } ρ n XP
def xoRet (F : DTL) : DTR := fun P ρ n XP => F ρ n P XP
abbrev DSpO := List SV → Nat → (List D → Nat → Prop) → DX → Prop
def spO (K : PySem.W.Frag) (T : Tb) (DS : DSpO) : Sp := fun vs H Q E => ∃ S Hb n ss P XP, World T S Hb H ∧ Args K S Hb H n ss vs ∧ (noOl ss = true ∧ DS ss n P XP) ∧ ROk K T S Hb H n P Q ∧ XOk K T S Hb H n XP E
section
variable {K : PySem.W.Frag} {T : Tb} {S : SA} {E : XK} {Hb H Hb1 H1 H0 : Hp} {n n1 : Nat} {t u : TS} {te : TE} {P : List D → Nat → Prop} {Q : VK}
theorem ROk.step (a : Stp K T S Hb H n Hb1 H1 n1) (h : ROk K T S Hb H n P Q) : ROk K T S Hb1 H1 n1 P Q := fun ds p vs n' Hb' H' s f => h ds p vs n' Hb' H' (a.trans s) (a.dm p f)
theorem rdso_seq {F : DTS} {G : DTR} (h1 : RdS K T S E t F) (h2 : RdSO K T S E u G) : RdSO K T S E (tSeq t u) (xoSeq F G) := fun σ ρ Hb0 H0 n0 Hb H n P XP D a sl h q x =>
  h1 σ ρ Hb0 H0 n0 Hb H n _ XP _ a sl h ⟨fun ρ' σ' n' Hb' H' e s sl' p => h2 σ' ρ' Hb0 H0 n0 Hb' H' n' P XP D s sl' p q x, fun _ _ _ _ _ _ _ p => p.elim, fun _ _ _ _ _ _ _ _ p => p.elim, fun _ _ _ _ _ _ _ _ p => p.elim⟩ x
theorem rdso_ret {F : DTL} (h1 : RdN K T S E te F) : RdSO K T S E (tRet te) (xoRet F) := fun σ ρ Hb0 H0 n0 Hb H n P XP D a sl h q x =>
  h1 σ ρ Hb H n _ XP _ a.wd sl.sl h (q.step a) (x.step a)
variable {Pr : Program} {w : PySem.World} {mg : Str → Option Value} {base : Heap}
theorem _root_.L2.Fun.okXO {x qual : Str} {st : Stmt} {f : Addr} {fd : FuncData} {N ps : List Str} {k : Nat} {DS : DSpO} (F : Fun K x qual st f fd) (Sc : FnScope N ps (defScope st)) (len : ∀ ss n P XP, DS ss n P XP → ss.length = ps.length)
    (hb : ∀ (S : SA) (cdv : Value) (A : Around) (outer : List Env) (s : Shared) (H : Hp) (E : XK), Room k (A.deeper (envOfC qual (defScope st) s.heap.objs.size f cdv)) →
      ∃ ts G, PSs (cxOf (L2.CX Pr w) Pr w K mg base N qual (defScope st) f cdv A outer s H E) (defBody st) ts ∧ RdSO K T S E ts G ∧ ∀ ss n P XP, DS ss n P XP → G P (startS N ss) n XP) :
    FnOk Pr w K mg base (L2.CX Pr w) (k + 1) f fd ps (spO K T DS) := by
  refine F.okX Sc (fun vs H Q E h => ?_) (fun cdv A outer s H vs Q E hr h => ?_)
  · obtain ⟨S, Hb, n, ss, P, XP, _, ha, ⟨_, hd⟩, _⟩ := h
    rw [← ha.len]
    exact len ss n P XP hd
  · obtain ⟨S, Hb, n, ss, P, XP, wd, ha, ⟨ho, hd⟩, q, x⟩ := h
    obtain ⟨ts, G, h1, h2, h3⟩ := hb S cdv A outer s H E hr
    exact ⟨ts, h1, h2 _ _ Hb H n Hb H n _ XP _ (.refl wd) ⟨.start ha (noL_of ho), start_fr ho⟩ (h3 ss n P XP hd) q x⟩
/-! calls -/
def xnCallO (DS : DSpO) (G : DTA) : DTL := fun ρ n P XP => G ρ n (fun ss n1 => noOl ss = true ∧ DS ss n1 P XP) XP
theorem rdn_callO {DS : DSpO} {ta : TA} {G : DTA} (h : RdA K T S E ta G) : RdN K T S E (tCall (spO K T DS) [] E ta) (xnCallO DS G) := fun σ ρ Hb H n P XP Q w sl hf q x =>
  h σ ρ Hb H n _ XP _ w sl hf (fun ss vs n1 Hb1 H1 s ha p => by
    show spO K T DS (vs ++ []) H1 Q E
    rw [List.append_nil]
    exact ⟨S, Hb1, n1, ss, P, XP, s.wd, ha, p, ROk.step s q, x.step s⟩) x
/-- where it does not raise -/
def xnCallO0 (DS : DSpO) (G : DTA) : DTL := fun ρ n P XP => G ρ n (fun ss n1 => noOl ss = true ∧ DS ss n1 P xF) XP
theorem rdn_callO0 {DS : DSpO} {ta : TA} {G : DTA} {E' : XK} (h : RdA K T S E' ta G) : RdN K T S E' (tCall (spO K T DS) [] E0 ta) (xnCallO0 DS G) := fun σ ρ Hb H n P XP Q w sl hf q x =>
  h σ ρ Hb H n _ XP _ w sl hf (fun ss vs n1 Hb1 H1 s ha p => by
    show spO K T DS (vs ++ []) H1 Q E0
    rw [List.append_nil]
    exact ⟨S, Hb1, n1, ss, P, xF, s.wd, ha, p, ROk.step s q, .none⟩) x
def xnCallKwO (DS : DSpO) (a b : Nat) (ix : List Nat) (G Gk : DTA) : DTL := fun ρ n P XP => G ρ n (fun ss n1 => Gk ρ n1 (fun ts n2 => ss.length = a ∧ ts.length = b ∧ noOl (gp ix ss ts) = true ∧ DS (gp ix ss ts) n2 P xF) XP) XP
theorem rdn_callKwO {DS : DSpO} {ix : List Nat} {a b : Nat} {ta tk : TA} {G Gk : DTA} {E' : XK} (h1 : RdA K T S E ta G) (h2 : RdA K T S E tk Gk) :
    RdN K T S E (tCallN a b (spO K T DS) (gp ix) E0 ta tk) (xnCallKwO DS a b ix G Gk) := fun σ ρ Hb H n P XP Q wd sl h q x =>
  h1 σ ρ Hb H n _ XP _ wd sl h (fun ss vs n1 Hb1 H1 s ha p => h2 σ ρ Hb1 H1 n1 _ XP _ s.wd (sl.step s) p (fun ts us n2 Hb2 H2 s2 hb p2 => by
    obtain ⟨e1, e2, p2⟩ := p2
    exact ⟨by rw [← ha.len]; exact e1, by rw [← hb.len]; exact e2, S, Hb2, n2, gp ix ss ts, P, xF, s2.wd, (ha.step s2).append (hb.gpI ix), p2, ROk.step s2 (ROk.step s q), .none⟩) (x.step s)) x
/-- a new list taken as data -/
def xOf (F : DTL) : DT := fun ρ n P XP => F ρ n (fun ds n1 => P (.lst ds) n1) XP
theorem rd_ofN {F : DTL} (h : RdN K T S E te F) : DL.Rd K T S E te (xOf F) := rd_of_new h
/-- the reading of what is known to be a new list, by two ways of a test -/
def xnIf (F : DTT) (G1 G2 : DTL) : DTL := fun ρ n P XP => F ρ n (fun b n1 => match b with | true => G1 ρ n1 P XP | false => G2 ρ n1 P XP) XP
theorem rdn_if {c : TT} {FT : DTT} {ta tb : TE} {G1 G2 : DTL} (hc : RdT K T S E c FT) (h1 : RdN K T S E ta G1) (h2 : RdN K T S E tb G2) : RdN K T S E (tIf c ta tb) (xnIf FT G1 G2) := fun σ ρ Hb H n P XP Q w sl h q x =>
  hc σ ρ Hb H n _ XP _ w sl h (fun b n1 Hb1 H1 s p => by
    cases b with
    | true => exact iteT (h1 σ ρ Hb1 H1 n1 _ XP _ s.wd (sl.step s) p (ROk.step s q) (x.step s))
    | false => exact iteF (h2 σ ρ Hb1 H1 n1 _ XP _ s.wd (sl.step s) p (ROk.step s q) (x.step s))) x
end
end DL

/-! sorted of tuples the first of which is () -/
namespace SCo
open L2 PySem PySem.Spec PyProof.Rows PySem.W
section
variable {prog : Program} {w : PySem.World} {A : Around} {E : Value → Shared → Prop} {s : Shared} {β : Type} {bs : List β} {enc : β → PyData} {R : Value → β → Prop}
theorem oneLt_tups {xs ys : List PyData} {a b : Value} {as bs : List Addr} {Q : Bool → Shared → Prop} (ra : Reads s.heap a (.tuple xs) as) (rb : Reads s.heap b (.tuple ys) bs) (hal : alikeAll xs ys = true) (hu : A.units + (PyData.tuple xs).depth < cLine) (q : Q (dataLt (.tuple xs) (.tuple ys)) s) :
    wpAny (model prog w) A (oneLt' true a b) Q E s := by
  have hd : (PyData.tuple xs).depth = PyData.depthAll xs + 1 := by rw [PyData.depth]
  cases ra with
  | @tuple l o vs n _ _ ho hc hda hra =>
    cases rb with
    | @tuple m o2 us n2 _ _ ho2 hc2 hda2 hrb =>
      rw [oneLt'_eq, if_pos rfl]
      refine wpAny_bind (wpAny_cRoomFor (by omega) ?_)
      refine wpAny_bind (wpAny_callSpecialIfBound?_slot (T := "tuple") ⟨_, ho, hc⟩ F.slot_tuple_lt ?_)
      obtain ⟨c1, d1, da1, sl1⟩ := o
      obtain ⟨c2, d2, da2, sl2⟩ := o2
      cases hc
      cases hc2
      cases hda
      cases hda2
      have l1 := SeqAt.ReadsAll.length _ _ _ hra
      have l2 := SeqAt.ReadsAll.length _ _ _ hrb
      rw [Array.length_toList] at l1 l2
      have e1 := eqAt_alikeAll xs ys A.in1 s vs.toList us.toList _ _ hra hrb hal (by simp only [Around.in1]; omega)
      have e2 := rcLt_alikeAll xs ys A.in1 s vs.toList us.toList _ _ hra hrb hal (by simp only [Around.in1]; omega)
      refine call_meets F.slot_tuple_lt ⟨_, ho, rfl⟩ F.entry_tuple_lt (F.args_tuple_lt_2 _ _) (SeqAt.tuple_ltAt l m vs us _ _ _ _ _ _ (SeqAt.pairEq xs ys) (fun j => dataLt (xs.getD j .none) (ys.getD j .none))) ⟨ho, ho2, fun j h1 h2 => ?_, fun j h1 h2 h3 => ?_, ?_⟩
      · have z := e1 j (by simpa using h1) (by simpa using h2)
        simpa using z
      · have z := e2 j (by simpa using h1) (by simpa using h2) h3
        simpa using z
      · rw [l1, l2, firstLt_toks xs ys hal, ← dataLt_tuple]
        show wpAny _ _ (truthy (.bool _)) _ _ _
        exact wpAny_pure q
theorem firsts_all {vs : List Value} {ds : List PyData} (e2 : EachIs (fun v d => (∃ as, Reads s.heap v d as) ∧ ∃ l, d = .tuple l) vs ds) (h2 : 2 ≤ vs.length) {rest : List PyData} (hd : ds = .tuple [] :: rest) {Q : SortKind → Shared → Prop} (q : Q oneType' s) :
    wpAny (model prog w) A (keyKind' vs.toArray) Q E s := by
  have hl := e2.length
  subst hd
  rw [kat_kind_eq, List.mapM_toArray, map_eq_pure_bind]
  refine wpAny_bind (wpAny_bind (firsts_any vs _ e2 fun fs hfl hf => wpAny_pure ?_))
  obtain ⟨f, g1, g2⟩ := hf 0 _ rfl
  have g3 : f.isSome = false := Bool.eq_false_iff.mpr fun z => by
    obtain ⟨x, r, e⟩ := g2.mp z
    cases e
  have h1 : ((fs.toArray).all fun x => x.isSome) = false := by
    rw [Bool.eq_false_iff]
    intro z
    rw [List.all_toArray, List.all_eq_true] at z
    have := z f (List.mem_of_getElem? g1)
    rw [g3] at this
    cases this
  rw [h1]
  have h3 : ((fs.toArray)[0]?.bind id).isSome = false := by
    rw [List.getElem?_toArray, g1]
    exact g3
  rw [if_neg (by simp), if_neg (by rw [h3]; simp)]
  have eo : oneTypeOnly' vs.toArray = (do
    let ts ← vs.toArray.mapM typeOf
    match ts[0]? with
      | some t => pure (if (ts.all fun x => x == t) = true then some t else none)
      | none => pure none) := rfl
  rw [eo, List.mapM_toArray, map_eq_pure_bind]
  refine wpAny_bind (wpAny_bind (wpAny_bind (kas_mapM (r := .type "tuple") vs (fun v hv Q' q' => ?_) (wpAny_pure ?_))))
  · obtain ⟨d, hm, ⟨as, r⟩, l, rfl⟩ := e2.left v hv
    cases r with
    | @tuple a o xs n _ _ ho hc hda hr => exact wpAny_typeOf ⟨o, ho, hc⟩ q'
  · have e1 : (List.map (fun _ => Value.type "tuple") vs).toArray[0]? = some (.type "tuple") := by
      rw [List.getElem?_toArray, List.getElem?_map, List.getElem?_eq_getElem (by omega)]
      rfl
    have e3 : ((List.map (fun _ => Value.type "tuple") vs).toArray.all fun x => x == Value.type "tuple") = true := by
      rw [List.all_toArray, List.all_eq_true]
      intro x hx
      obtain ⟨_, _, rfl⟩ := List.mem_map.mp hx
      decide
    rw [e1]
    show wpAny _ _ (pure (if ((List.map (fun _ => Value.type "tuple") vs).toArray.all fun x => x == Value.type "tuple") = true then some (Value.type "tuple") else none)) _ _ _
    rw [if_pos e3]
    exact wpAny_pure (wpAny_pure q)
theorem sorts_nil {vs : List Value} {ds : List PyData} (e : EachIs (fun v d => ∃ as, Reads s.heap v d as) vs ds) (hal : AllAlike ds) (hT : ∀ d ∈ ds, ∃ l, d = .tuple l) {rest : List PyData} (hd : ds = .tuple [] :: rest) (hu : ∀ d, d ∈ ds → A.units + d.depth < cLine) :
    SortsAt prog w A s (dataKind s.heap ds) vs := by
  have e2 : EachIs (fun v d => (∃ as, Reads s.heap v d as) ∧ ∃ l, d = .tuple l) vs ds := EachIs.of_zip e.length fun p hp => ⟨e.zip p hp, hT p.2 (List.of_mem_zip (a := p.1) (b := p.2) hp).2⟩
  refine ⟨fun v hv => ?_, oneType', fun E' x y a b Q ha hb hq => ?_, fun h2 E' Q hq => firsts_all e2 h2 hd hq⟩
  · obtain ⟨d, hm, as, r⟩ := e.left v hv
    exact ⟨_, dataKind_some hal hm r⟩
  · obtain ⟨d1, as, h1, ra, rfl⟩ := dataKind_inv ha
    obtain ⟨d2, bs, h3, rb, rfl⟩ := dataKind_inv hb
    obtain ⟨l, rfl⟩ := hT d1 h1
    obtain ⟨m, rfl⟩ := hT d2 h3
    exact oneLt_tups ra rb (hal _ h1 _ h3) (hu _ h1) hq
theorem sorts_tups {vs : List Value} {ds : List PyData} (e : EachIs (fun v d => ∃ as, Reads s.heap v d as) vs ds) (hal : AllAlike ds) (hT : ∀ d ∈ ds, ∃ l, d = .tuple l) (hu : ∀ d, d ∈ ds → A.units + d.depth < cLine) :
    SortsAt prog w A s (dataKind s.heap ds) vs := by
  cases ds with
  | nil => exact sorts_head e hal hT (.inl (by simp)) hu
  | cons d rest =>
    obtain ⟨l, rfl⟩ := hT d List.mem_cons_self
    cases l with
    | nil => exact sorts_nil e hal hT rfl hu
    | cons x r => exact sorts_head e hal hT (.inr ⟨x, r, rest, rfl⟩) hu
end
end SCo

/-! <, <=, >, >= and sorted of any data that is alike -/
namespace SCo
open L2 PySem PySem.Spec PyProof.Rows PySem.W
section
variable {prog : Program} {w : PySem.World} {A : Around} {E : Value → Shared → Prop} {s : Shared} {β : Type} {bs : List β} {enc : β → PyData} {R : Value → β → Prop}
theorem sorted_seqP {l : Addr} {T : String} {o : Obj} {its : Array Value} {n : Nat} {Q : Value → Shared → Prop} (hT : T = "list" ∨ T = "tuple") (ho : s.heap.get? l = some o) (hc : o.cls = .type T) (hd : o.data = .seq its n)
    (e : EachIs R its.toList bs) (er : EachIs (fun v b => ∃ as, Reads s.heap v (enc b) as) its.toList bs) (hal : AllAlike (bs.map enc)) (hk : Sortable (bs.map enc) ∨ ∀ d ∈ bs.map enc, ∃ l, d = .tuple l) (hL : bs.length ≤ sizeLine) (hu : ∀ b, b ∈ bs → A.units + 5 + (enc b).depth < cLine)
    (fin : ∀ (h' : Heap) (p : Addr) (out : List Value) (c : Nat), (∀ b o, s.heap.get? b = some o → h'.get? b = some o) → s.heap.objs.size ≤ p → h'.get? p = some (seqObj "list" out.toArray c) → EachIs R out (bs.mergeSort (dataLe false enc)) → Q (.ref p) { s with heap := h' }) :
    wpAny (model prog w) A (call (.builtin "sorted") [.ref l]) Q E s := by
  have hz : its.size ≤ sizeLine := by have := e.length; rw [Array.length_toList] at this; omega
  refine Calls.call_function_entry kind_sorted plain_sorted entry_sorted (args_sorted1 _) ?_
  unfold Builtin.«sorted»
  refine wpAny_bind (m := checkCount "sorted" 1 1 _) (wpAny_pure ?_)
  refine wpAny_bind (gathered (A := A.in1) l hT ho hc hd hz fun h1 k1 z1 => ?_)
  refine wpAny_bind (wpAny_newList ?_ (by rw [Array.length_toList]; exact hz))
  have at1 : (h1.push (seqObj "list" its.toList.toArray 0)).get? h1.objs.size = some (seqObj "list" its.toList.toArray 0) := Heap.get?_push_size _ rfl
  have er2 : EachIs (fun v b => ∃ as, Reads (sortingHeap (h1.push (seqObj "list" its.toList.toArray 0)) h1.objs.size its.toList) v (enc b) as) its.toList bs := er.mono fun v b ⟨as, r⟩ => ⟨as, PyProof.Rows.Reads.keeps (fun b o q => sortingHeap_old (Nat.ne_of_lt (Heap.lt_size (k1 b o q))) (Heap.get?_push_of_some _ (k1 b o q))) r⟩
  have hu2 : ∀ d, d ∈ bs.map enc → A.in1.in1.units + d.depth < cLine := fun d hd => by
    obtain ⟨b, hb, rfl⟩ := List.mem_map.mp hd
    have := hu b hb
    simp only [Around.in1] at this ⊢
    omega
  have S : SortsAt prog w A.in1.in1 { s with heap := sortingHeap (h1.push (seqObj "list" its.toList.toArray 0)) h1.objs.size its.toList } (dataKind (sortingHeap (h1.push (seqObj "list" its.toList.toArray 0)) h1.objs.size its.toList) (bs.map enc)) its.toList := by
    rcases hk with hk | hk1
    · exact SortsAt.data (s := { s with heap := sortingHeap (h1.push (seqObj "list" its.toList.toArray 0)) h1.objs.size its.toList }) (each_map (R := fun v d => ∃ as, Reads (sortingHeap (h1.push (seqObj "list" its.toList.toArray 0)) h1.objs.size its.toList) v d as) enc er2) hal hk hu2
    · exact sorts_tups (s := { s with heap := sortingHeap (h1.push (seqObj "list" its.toList.toArray 0)) h1.objs.size its.toList }) (each_map (R := fun v d => ∃ as, Reads (sortingHeap (h1.push (seqObj "list" its.toList.toArray 0)) h1.objs.size its.toList) v d as) enc er2) hal hk1 hu2
  refine wpAny_bind (wpAny_holding (wpAny_call_entry slot_list_sort ⟨_, at1, rfl⟩ entry_list_sort (list_sort_vals (s := { s with heap := h1.push (seqObj "list" its.toList.toArray 0) }) at1 S (by rw [Array.length_toList]; exact hz) ⟨.none, rfl, ?_⟩) (args_list_sort _)))
  have h3 := sortVals_data false e er2 hal
  obtain ⟨c, hc2⟩ := sortedHeap_at (vs := its.toList) (out := (sortVals (dataKind (sortingHeap (h1.push (seqObj "list" its.toList.toArray 0)) h1.objs.size its.toList) (bs.map enc)) false its.toList its.toList).toArray) at1
  refine wpAny_pure ⟨_, rfl, fin _ h1.objs.size _ c (fun b u q => ?_) z1 hc2 h3⟩
  · have q1 := k1 b u q
    have lt := Heap.lt_size q1
    rw [sortedHeap_old (Nat.ne_of_lt lt) (by rw [size_push']; exact Nat.lt_succ_of_lt lt)]
    exact Heap.get?_push_of_some _ q1
end
section
variable {X : Cx}
def SortOk (ps : List PyData) : Prop := AllAlike ps ∧ (Sortable ps ∨ ∀ d ∈ ps, ∃ l, d = .tuple l) ∧ ∀ d ∈ ps, d.depth ≤ 50
def leP (b c : V × PyData) : Bool := !dataLt c.2 b.2
def rSortP (K : PySem.W.Frag) : List V → Hp → VK → Prop := fun vs H Q => ∃ (a : Addr) (bs : List (V × PyData)), vs = [.ref a] ∧ (SqL K H a (bs.map (·.1)) ∨ SqT K H a (bs.map (·.1))) ∧ (∀ b ∈ bs, Dp K H b.1 b.2) ∧ SortOk (bs.map (·.2)) ∧
  ∀ p, H p = none → Q (.ref p) (upd H p (.lst ((bs.mergeSort leP).map (·.1))))
theorem le_encP : dataLe false (fun b : V × PyData => b.2) = leP := by
  funext b c
  rw [dataLe_eq]
  rfl
theorem cr_sortP {k0 : Nat} (hr : Room k0 X.A) : CallR X (.builtin "sorted") (rSortP X.K) := by
  intro pins s σ H vs us Q I r h
  obtain ⟨a, bs, rfl, hs, hb, ⟨hal, hk, hdp⟩, q⟩ := h
  rw [Vals.ref1 r]
  have hu : ∀ b, b ∈ bs → X.A.units + 5 + ((fun b : V × PyData => b.2) b).depth < cLine := fun b hm => by
    have e := hdp b.2 (List.mem_map_of_mem (f := fun b : V × PyData => b.2) hm)
    have := hr.un
    show X.A.units + 5 + b.2.depth < cLine
    omega
  have go : ∀ {T : String} {o : Obj} {its : List Value} {n : Nat}, (T = "list" ∨ T = "tuple") → Vals (bs.map (·.1)) its → (bs.map (·.1)).length ≤ sizeLine → s.heap.get? a = some o → o.cls = .type T → o.data = .seq its.toArray n → wpAny (model X.prog X.w) X.A (call (.builtin "sorted") [.ref a]) (EP X pins σ Q) X.xe s := by
    intro T o its n hT rv hz ho hc hd
    refine sorted_seqP (bs := bs) (enc := fun b : V × PyData => b.2) (R := fun v b => RelV b.1 v ∧ b ∈ bs) (its := its.toArray) hT ho hc hd (vals_each rv) ((vals_each rv).mono fun v b hm => Dp.reads I b.2 b.1 v (hb b hm.2) hm.1) hal hk (by simpa using hz) hu fun h' p out c kp hp hg he => ?_
    rw [le_encP] at he
    have hl : ((bs.mergeSort leP).map (·.1)).length ≤ sizeLine := by rw [List.length_map, List.length_mergeSort]; simpa using hz
    exact ⟨.ref p, _, I.laid (t' := s.toks) (o := .lst ((bs.mergeSort leP).map (·.1))) kp hp ⟨hl, out, c, each_vals he, hg⟩, rfl, q p (I.hok.fresh hp)⟩
  rcases hs with hs | hs
  · obtain ⟨its, rv, hl, hz⟩ := I.list hs
    obtain ⟨o, ho, hc, n, hd⟩ := hl.isList
    exact go (.inl rfl) rv hz ho hc hd
  · obtain ⟨its, rv, ⟨o, ho, hc, n, hd⟩, hz⟩ := I.tuple hs
    exact go (.inr rfl) rv hz ho hc hd
end
end SCo
namespace DL
open L2 PySem PySem.Spec PyProof.Rows SCo
open Evl (Ex ex_l ex_t sz_of)
section
variable {K : PySem.W.Frag}
def pOf (d : D) : PyData := (toP d).getD .none
def leQ (a b : D) : Bool := !PySem.W.dataLt (pOf b) (pOf a)
def sortP (xs : List D) : List D := xs.mergeSort leQ
def sortPD : D → (D → Prop) → Prop := fun d k => match d with
  | .lst xs => (∃ ps, toPs xs = some ps ∧ SortOk ps) ∧ k (.lst (sortP xs))
  | .tup xs => (∃ ps, toPs xs = some ps ∧ SortOk ps) ∧ k (.lst (sortP xs))
  | _ => False
theorem toPs_pOf : ∀ {xs : List D} {ps : List PyData}, toPs xs = some ps → ps = xs.map pOf ∧ ∀ x ∈ xs, toP x = some (pOf x)
  | [], _, h => by cases h; exact ⟨rfl, fun x hx => nomatch hx⟩
  | x :: xs, ps, h => by
    unfold toPs at h
    cases e1 : toP x with
    | none => rw [e1] at h; cases h
    | some p =>
      cases e2 : toPs xs with
      | none => rw [e1, e2] at h; cases h
      | some qs =>
        rw [e1, e2] at h
        cases h
        obtain ⟨h1, h2⟩ := toPs_pOf e2
        have ep : pOf x = p := by unfold pOf; rw [e1]; rfl
        refine ⟨by rw [List.map_cons, ep, ← h1], fun y hy => ?_⟩
        rcases List.mem_cons.mp hy with rfl | hy
        · rw [ep]; exact e1
        · exact h2 y hy
theorem DnA.both {H : Hp} : ∀ {xs : List D} {vs : List V}, DnA K H vs xs → ∃ bs : List (V × D), vs = bs.map (·.1) ∧ xs = bs.map (·.2) ∧ ∀ b ∈ bs, Dn K H b.1 b.2
  | [], _, h => by cases h; exact ⟨[], rfl, rfl, fun b hb => nomatch hb⟩
  | x :: xs, _, h => by
    cases h with
    | @cons v vs d ds h1 h2 =>
      obtain ⟨bs, rfl, rfl, hb⟩ := DnA.both h2
      refine ⟨(v, x) :: bs, rfl, rfl, fun b hm => ?_⟩
      rcases List.mem_cons.mp hm with rfl | hm
      · exact h1
      · exact hb b hm
theorem DnA.ofBoth {H : Hp} : ∀ {bs : List (V × D)}, (∀ b ∈ bs, Dn K H b.1 b.2) → DnA K H (bs.map (·.1)) (bs.map (·.2))
  | [], _ => .nil
  | b :: bs, h => .cons (h b (.head _)) (DnA.ofBoth fun c hc => h c (.tail _ hc))
theorem cal_sortP : Cal K (rSortP K) (one1 sortPD) := by
  refine cal_one ?_
  intro T S v d Hb H n P Q w hv h q
  have fin : ∀ {a : Addr} {bs : List (V × D)} {ps : List PyData}, (∀ b ∈ bs, Dn K Hb b.1 b.2) → toPs (bs.map (·.2)) = some ps → SortOk ps → (SqL K H a (bs.map (·.1)) ∨ SqT K H a (bs.map (·.1))) → P (.lst (sortP (bs.map (·.2)))) n → rSortP K [.ref a] H Q := by
    intro a bs ps hb he ho hs hp
    obtain ⟨e1, e2⟩ := toPs_pOf he
    have ec : (bs.map fun b => (b.1, pOf b.2)).map (·.1) = bs.map (·.1) := by rw [List.map_map]; rfl
    have ed : (bs.map fun b => (b.1, pOf b.2)).map (·.2) = ps := by rw [e1, List.map_map, List.map_map]; rfl
    refine ⟨a, bs.map fun b => (b.1, pOf b.2), rfl, by rw [ec]; exact hs, fun c hc => ?_, by rw [ed]; exact ho, fun p hp' => ?_⟩
    · obtain ⟨b, hm, rfl⟩ := List.mem_map.mp hc
      exact Dn.toDp _ (w.dn (hb b hm)) (e2 b.2 (List.mem_map_of_mem (f := fun b : V × D => b.2) hm))
    · have s1 : ((bs.map fun b => (b.1, pOf b.2)).mergeSort leP).map (·.1) = (bs.mergeSort fun b c => leQ b.2 c.2).map (·.1) := by
        rw [← PySem.W.sort_maps (r := fun b c : V × D => leQ b.2 c.2) (s := leP) (fun b : V × D => (b.1, pOf b.2)) fun _ _ _ _ => rfl, List.map_map]
        rfl
      have s2 : (bs.mergeSort fun b c => leQ b.2 c.2).map (·.2) = sortP (bs.map (·.2)) := PySem.W.sort_maps (r := fun b c : V × D => leQ b.2 c.2) (s := leQ) (fun b : V × D => b.2) fun _ _ _ _ => rfl
      have hd : ∀ b ∈ bs.mergeSort (fun b c => leQ b.2 c.2), Dn K Hb b.1 b.2 := fun b hm => hb b ((List.mergeSort_perm bs _).mem_iff.mp hm)
      rw [s1]
      refine q.new w hp' (.lst (SqL.of upd_same) ?_) hp
      rw [← s2]
      exact (DnA.ofBoth hd).up (Ex.new (free_of w.ex hp'))
  cases hv with
  | @lst a vs ds g1 g2 =>
    obtain ⟨⟨ps, e, ho⟩, h⟩ := h
    obtain ⟨bs, rfl, rfl, hb⟩ := g2.both
    exact fin hb e ho (.inl (ex_l w.ex g1)) h
  | @tup a vs ds g1 g2 =>
    obtain ⟨⟨ps, e, ho⟩, h⟩ := h
    obtain ⟨bs, rfl, rfl, hb⟩ := g2.both
    exact fin hb e ho (.inr (ex_t w.ex g1)) h
  | _ => exact h.elim
end
end DL

/-! tuples of tuples of ints: their order, sorted lists of these -/
namespace DL
open L2 PySem PySem.Spec PyProof.Rows SCo PySem.W
def tt (nss : List (List Int)) : D := .tup (nss.map tupI)
theorem toP_tt (nss : List (List Int)) : toP (tt nss) = some (.tuple (nss.map dT)) := by
  show (toPs (nss.map tupI)).map PyData.tuple = _
  rw [toPs_tups]
  rfl
theorem pOf_tt (nss : List (List Int)) : pOf (tt nss) = .tuple (nss.map dT) := by unfold pOf; rw [toP_tt]; rfl
theorem pOf_tup (ns : List Int) : pOf (tupI ns) = dT ns := by unfold pOf; rw [toP_tup]; rfl
theorem alike_dT (a b : List Int) : alike (dT a) (dT b) = true := alike_ints a b
theorem alikeAll_dT : ∀ a b : List (List Int), alikeAll (a.map dT) (b.map dT) = true
  | [], b => by cases b.map dT <;> rfl
  | a :: as, [] => rfl
  | a :: as, b :: bs => by
    show (alike (dT a) (dT b) && alikeAll (as.map dT) (bs.map dT)) = true
    rw [alike_dT, alikeAll_dT as bs]
    rfl
/-- the order of tuples of tuples of ints -/
def ltTT : List (List Int) → List (List Int) → Bool
  | [], [] => false
  | [], _ :: _ => true
  | _ :: _, [] => false
  | a :: as, b :: bs => if a = b then ltTT as bs else ltI a b
theorem ltTT_cons {a b : List Int} {as bs : List (List Int)} : ltTT (a :: as) (b :: bs) = if a = b then ltTT as bs else ltI a b := rfl
theorem dataLt_dT (a b : List Int) : dataLt (dT a) (dT b) = ltI a b := dataLt_tup
theorem dataLt_tt : ∀ a b : List (List Int), dataLt (.tuple (a.map dT)) (.tuple (b.map dT)) = ltTT a b := fun a b => by
  rw [dataLt_tuple]
  induction a generalizing b with
  | nil =>
    cases b with
    | nil => rfl
    | cons b bs => rfl
  | cons a as ih =>
    cases b with
    | nil => rfl
    | cons b bs =>
      rw [List.map_cons, List.map_cons, dataLt_cons (alike_dT a b), ih bs, eqv_dT, dataLt_dT]
      rw [ltTT_cons]
      by_cases h : a = b
      · rw [if_pos h, if_pos (by simpa using h)]
      · rw [if_neg h, if_neg (by simpa using h)]
/-- sorted of a list of tuples of tuples of ints -/
def sortTT (xs : List (List (List Int))) : List (List (List Int)) := xs.mergeSort fun a b => !ltTT b a
theorem sortTT_perm (xs : List (List (List Int))) : (sortTT xs).Perm xs := List.mergeSort_perm _ _
theorem toPs_tts : ∀ xs : List (List (List Int)), toPs (xs.map tt) = some (xs.map fun x => .tuple (x.map dT))
  | [] => rfl
  | x :: xs => by
    show (match toP (tt x), toPs (xs.map tt) with | some p, some ps => some (p :: ps) | _, _ => none) = _
    rw [toP_tt, toPs_tts xs]
    rfl
theorem depth_tt (x : List (List Int)) : (PyData.tuple (x.map dT)).depth ≤ 2 := by
  have h : PyData.depthAll (x.map dT) ≤ 1 := by
    induction x with
    | nil => simp [PyData.depthAll]
    | cons a as ih =>
      rw [List.map_cons, PyData.depthAll]
      have : (dT a).depth ≤ 1 := by unfold dT; rw [PyData.depth, depth_ints]; exact Nat.le_refl _
      omega
  rw [PyData.depth]
  omega
theorem sortOk_tt (xs : List (List (List Int))) : SortOk (xs.map fun x => .tuple (x.map dT)) := by
  refine ⟨fun d hd e he => ?_, .inr fun d hd => ?_, fun d hd => ?_⟩
  · obtain ⟨a, _, rfl⟩ := List.mem_map.mp hd
    obtain ⟨b, _, rfl⟩ := List.mem_map.mp he
    exact alikeAll_dT a b
  · obtain ⟨a, _, rfl⟩ := List.mem_map.mp hd
    exact ⟨_, rfl⟩
  · obtain ⟨a, _, rfl⟩ := List.mem_map.mp hd
    have := depth_tt a
    omega
theorem sortP_tt (xs : List (List (List Int))) : sortP (xs.map tt) = (sortTT xs).map tt :=
  (PySem.W.sort_maps (r := fun a b => !ltTT b a) (s := leQ) tt fun a b _ _ => by unfold leQ; rw [pOf_tt, pOf_tt, dataLt_tt]).symm
theorem sort_tts {xs : List (List (List Int))} {k : D → Prop} (h : k (.lst ((sortTT xs).map tt))) : sortPD (.lst (xs.map tt)) k := ⟨⟨_, toPs_tts xs, sortOk_tt xs⟩, by rw [sortP_tt]; exact h⟩
/-! tuples of ints, the first of which may be () -/
theorem sortOk_tup (xs : List (List Int)) : SortOk (xs.map dT) := by
  refine ⟨fun d hd e he => ?_, .inr fun d hd => ?_, fun d hd => ?_⟩
  · obtain ⟨a, _, rfl⟩ := List.mem_map.mp hd
    obtain ⟨b, _, rfl⟩ := List.mem_map.mp he
    exact alike_dT a b
  · obtain ⟨a, _, rfl⟩ := List.mem_map.mp hd
    exact ⟨_, rfl⟩
  · obtain ⟨a, _, rfl⟩ := List.mem_map.mp hd
    unfold dT
    rw [PyData.depth, depth_ints]
    decide
theorem sortP_tup (xs : List (List Int)) : sortP (xs.map tupI) = (sortL xs).map tupI :=
  (PySem.W.sort_maps (r := fun a b => !ltI b a) (s := leQ) tupI fun a b _ _ => by unfold leQ; rw [pOf_tup, pOf_tup, dataLt_dT]).symm
theorem sort_tups {xs : List (List Int)} {k : D → Prop} (h : k (.lst ((sortL xs).map tupI))) : sortPD (.lst (xs.map tupI)) k := ⟨⟨_, toPs_tups xs, sortOk_tup xs⟩, by rw [sortP_tup]; exact h⟩
/-! == and in -/
end DL

namespace Lw
open L2 PySem DL
def topS (i : Nat) : Stmt := PySem.Challenge.pw_oncefound_k65_all_trees_of_few_valleys.main.body.getD i (.Pass ⟨0, 0, 0, 0⟩)
/-- where the classes of the program stand -/
structure Cs where
  BadMany : Addr
  BadPartings : Addr
  BadSeats : Addr
  BadTies : Addr
  FoundError : Addr
  Tree : Addr
structure Tk where
  LEAST_TIES_AT_LOST : Tok
  MOST_LISTED : Tok
  MOST_TIES : Tok
  MOST_VALLEYS : Tok
structure Txt (K : PySem.W.Frag) (mg : Str → Option Value) (cs : Cs) (tk : Tk) : Prop where
  n_abs : mg "abs" = none
  n_all : mg "all" = none
  n_any : mg "any" = none
  n_bool : mg "bool" = none
  n_enumerate : mg "enumerate" = none
  n_int : mg "int" = none
  n_isinstance : mg "isinstance" = none
  n_len : mg "len" = none
  n_list : mg "list" = none
  n_max : mg "max" = none
  n_min : mg "min" = none
  n_range : mg "range" = none
  n_repr : mg "repr" = none
  n_sorted : mg "sorted" = none
  n_tuple : mg "tuple" = none
  n_zip : mg "zip" = none
  m_combinations : mg "combinations" = some (.type "itertools.combinations")
  k_LEAST_TIES_AT_LOST : True ∧ mg "LEAST_TIES_AT_LOST" = some (.int 3 tk.LEAST_TIES_AT_LOST)
  k_MOST_LISTED : True ∧ mg "MOST_LISTED" = some (.int 5 tk.MOST_LISTED)
  k_MOST_TIES : True ∧ mg "MOST_TIES" = some (.int 21 tk.MOST_TIES)
  k_MOST_VALLEYS : True ∧ mg "MOST_VALLEYS" = some (.int 12 tk.MOST_VALLEYS)
  g_BadMany : mg "BadMany" = some (.ref cs.BadMany)
  g_BadPartings : mg "BadPartings" = some (.ref cs.BadPartings)
  g_BadSeats : mg "BadSeats" = some (.ref cs.BadSeats)
  g_BadTies : mg "BadTies" = some (.ref cs.BadTies)
  g_FoundError : mg "FoundError" = some (.ref cs.FoundError)
  g_Tree : mg "Tree" = some (.ref cs.Tree)
  x_BadMany : PySem.W.excIn K cs.BadMany [.type "ValueError", .type "Exception", .type "BaseException", .type "object"] "ValueError.__new__" = true
  e_BadMany : PySem.W.keepIn K (.ref cs.BadMany) = true
  b_BadMany : PySem.W.subIn K (.ref cs.BadMany) (.type "BaseException") = some true
  t_BadMany : PySem.W.typeIn K (.ref cs.BadMany) = some (.type "type")
  r_BadMany : ErrC K cs.FoundError cs.BadMany
  i_BadMany : PySem.W.kitOne K (.ref cs.BadMany) (.ref cs.BadMany) = some true
  v_BadMany : PySem.W.kitOne K (.ref cs.BadMany) (.type "ValueError") = some true
  x_BadPartings : PySem.W.excIn K cs.BadPartings [.type "ValueError", .type "Exception", .type "BaseException", .type "object"] "ValueError.__new__" = true
  e_BadPartings : PySem.W.keepIn K (.ref cs.BadPartings) = true
  b_BadPartings : PySem.W.subIn K (.ref cs.BadPartings) (.type "BaseException") = some true
  t_BadPartings : PySem.W.typeIn K (.ref cs.BadPartings) = some (.type "type")
  r_BadPartings : ErrC K cs.FoundError cs.BadPartings
  i_BadPartings : PySem.W.kitOne K (.ref cs.BadPartings) (.ref cs.BadPartings) = some true
  v_BadPartings : PySem.W.kitOne K (.ref cs.BadPartings) (.type "ValueError") = some true
  x_BadSeats : PySem.W.excIn K cs.BadSeats [.type "ValueError", .type "Exception", .type "BaseException", .type "object"] "ValueError.__new__" = true
  e_BadSeats : PySem.W.keepIn K (.ref cs.BadSeats) = true
  b_BadSeats : PySem.W.subIn K (.ref cs.BadSeats) (.type "BaseException") = some true
  t_BadSeats : PySem.W.typeIn K (.ref cs.BadSeats) = some (.type "type")
  r_BadSeats : ErrC K cs.FoundError cs.BadSeats
  i_BadSeats : PySem.W.kitOne K (.ref cs.BadSeats) (.ref cs.BadSeats) = some true
  v_BadSeats : PySem.W.kitOne K (.ref cs.BadSeats) (.type "ValueError") = some true
  x_BadTies : PySem.W.excIn K cs.BadTies [.type "ValueError", .type "Exception", .type "BaseException", .type "object"] "ValueError.__new__" = true
  e_BadTies : PySem.W.keepIn K (.ref cs.BadTies) = true
  b_BadTies : PySem.W.subIn K (.ref cs.BadTies) (.type "BaseException") = some true
  t_BadTies : PySem.W.typeIn K (.ref cs.BadTies) = some (.type "type")
  r_BadTies : ErrC K cs.FoundError cs.BadTies
  i_BadTies : PySem.W.kitOne K (.ref cs.BadTies) (.ref cs.BadTies) = some true
  v_BadTies : PySem.W.kitOne K (.ref cs.BadTies) (.type "ValueError") = some true
  ic_Tree : InC K cs.Tree
  no_Tree : ∀ t ∈ ["NoneType", "bool", "int", "str", "list", "tuple", "dict"], PySem.W.kitOne K (.type t) (.ref cs.Tree) = some false
  i_Tree : PySem.W.kitOne K (.ref cs.Tree) (.ref cs.Tree) = some true
  na_Tree_ties : NoAttr K cs.Tree "ties"
  na_Tree_seats : NoAttr K cs.Tree "seats"
end Lw

namespace Lw
open L2 PySem DL
/-! the mathematics of tables -/
mutual
/-- nothing that was caught is in it -/
def nx : D → Bool
  | .exc _ _ _ => false
  | .fnv _ => false
  | .dit _ _ => false
  | .lam _ => false
  | .lst xs => nxs xs
  | .tup xs => nxs xs
  | .dic _ xs => nxs xs
  | .ins _ _ xs => nxs xs
  | _ => true
def nxs : List D → Bool
  | [] => true
  | d :: ds => nx d && nxs ds
end
theorem bare_of {d : D} (h : nx d = true) : bareD d := by cases d <;> first | trivial | (simp [nx] at h)
theorem nxs_mem : ∀ {ds : List D} {d : D}, nxs ds = true → d ∈ ds → nx d = true
  | e :: es, d, h, hm => by
    simp [nxs] at h
    rcases List.mem_cons.mp hm with rfl | hm
    · exact h.1
    · exact nxs_mem h.2 hm
theorem nxs_of : ∀ {ds : List D}, (∀ d ∈ ds, nx d = true) → nxs ds = true
  | [], _ => rfl
  | d :: ds, h => by
    simp only [nxs, Bool.and_eq_true]
    exact ⟨h d List.mem_cons_self, nxs_of fun e he => h e (List.mem_cons_of_mem _ he)⟩
def betw (lo hi : Int) : D → Bool
  | .int i => decide (lo ≤ i) && decide (i ≤ hi)
  | _ => false
theorem compM_map {step : D → Nat → (Option D → Nat → Prop) → Prop} {f : D → D} : ∀ {xs : List D} {n : Nat} {P : List D → Nat → Prop}, (∀ x ∈ xs, ∀ n (k : Option D → Nat → Prop), k (some (f x)) n → step x n k) → P (xs.map f) n → compM step xs n P
  | [], _, _, _, p => p
  | x :: xs, n, P, h, p => h x List.mem_cons_self n _ (compM_map (fun y hy => h y (List.mem_cons_of_mem _ hy)) p)
theorem compM_filter {step : D → Nat → (Option D → Nat → Prop) → Prop} {f : D → Option D} : ∀ {xs : List D} {n : Nat} {P : List D → Nat → Prop}, (∀ x ∈ xs, ∀ n (k : Option D → Nat → Prop), k (f x) n → step x n k) → P (xs.filterMap f) n → compM step xs n P
  | [], _, _, _, p => p
  | x :: xs, n, P, h, p => h x List.mem_cons_self n _ (compM_filter (fun y hy => h y (List.mem_cons_of_mem _ hy)) (by
      rw [List.filterMap_cons] at p
      cases e : f x with
      | none => rw [e] at p; exact p
      | some d => rw [e] at p; exact p))
theorem blsD_map {α : Type} {f : α → Bool} : ∀ {xs : List α}, blsD (xs.map fun x => D.bl (f x)) = some (xs.map f)
  | [] => rfl
  | x :: xs => by simp [blsD, blsD_map (xs := xs)]
theorem all_map {α : Type} {f : α → Bool} {xs : List α} : (xs.map f).all id = xs.all f := by simp [List.all_map]
theorem allD_map {f : D → Bool} {xs : List D} {k : D → Prop} (h : k (.bl (xs.all f))) : allD' (.lst (xs.map fun x => .bl (f x))) k := ⟨_, blsD_map, by rw [all_map]; exact h⟩
theorem toPs_ints : ∀ js : List Int, toPs (js.map D.int) = some (js.map PyData.int)
  | [] => rfl
  | j :: js => by simp [toPs, toP, toPs_ints js]
theorem lay_ints : ∀ js : List Int, PySem.PyData.canLayAll0 (js.map PyData.int) = true
  | [] => rfl
  | j :: js => by simp [PySem.PyData.canLayAll0, PySem.PyData.canLay0, lay_ints js]
theorem dep_ints : ∀ js : List Int, PySem.PyData.depthAll (js.map PyData.int) = 0
  | [] => rfl
  | j :: js => by simp [PySem.PyData.depthAll, PySem.PyData.depth, dep_ints js]
theorem eq_ints {f : Bool → Bool} {js : List Int} {k : D → Prop} (h : k (.bl (f js.isEmpty))) : eqP f (.lst (js.map D.int)) (.lst []) k := by
  refine ⟨.list (js.map PyData.int), .list [], by simp [toP, toPs_ints], by simp [toP, toPs], ?_, ?_, ?_⟩
  · simp [SeqAt.shaped, PySem.PyData.canLay0, PySem.PyData.depth, lay_ints, dep_ints]
  · simp [SeqAt.shaped, PySem.PyData.canLay0, PySem.PyData.canLayAll0, PySem.PyData.depth, PySem.PyData.depthAll]
  · cases js <;> simpa [PyData.eqv, PyData.eqvAll] using h
def ones {α : Type} (b : α → Bool) (xs : List α) : List D := xs.filterMap fun x => if b x then some (D.int 1) else none
theorem ones_eq {α : Type} {b : α → Bool} : ∀ {xs : List α}, ones b xs = ((xs.filter b).map fun _ => (1 : Int)).map D.int
  | [] => rfl
  | x :: xs => by
    have z := ones_eq (b := b) (xs := xs)
    unfold ones at z ⊢
    rw [List.filterMap_cons, List.filter_cons]
    cases h : b x
    · simpa using z
    · simpa using z
theorem eq_ones {α : Type} {b : α → Bool} {xs : List α} {f : Bool → Bool} {k : D → Prop} (h : k (.bl (f (xs.all fun x => !b x)))) : eqP f (.lst (ones b xs)) (.lst []) k := by
  rw [ones_eq]
  refine eq_ints ?_
  have e : ((xs.filter b).map fun _ => (1 : Int)).isEmpty = xs.all fun x => !b x := by
    rw [Bool.eq_iff_iff]
    simp [List.filter_eq_nil_iff]
  rw [e]
  exact h
theorem at_nat {xs : List D} {j : Nat} {d : D} (h : xs[j]? = some d) : atD xs (j : Int) = some d := by
  have hj := (List.getElem?_eq_some_iff.mp h).1
  have e : ixN xs.length (j : Int) = some j := by
    unfold ixN
    rw [if_pos (by omega), if_pos (by omega), Int.toNat_natCast]
  unfold atD
  rw [e]
  exact h
theorem at_zero {x : D} {xs : List D} : atD (x :: xs) 0 = some x := at_nat (j := 0) rfl
theorem cut_to {xs : List D} {i : Nat} : cutD xs none (some (i : Int)) = xs.take i := by
  unfold cutD
  rw [HT.sIx_nat, HT.sIx_none, List.drop_zero]
  simp [List.take_eq_take_iff]
theorem cut_from {xs : List D} {i : Nat} : cutD xs (some (i : Int)) none = xs.drop i := by
  unfold cutD
  rw [HT.sIx_nat, HT.sIx_none]
  by_cases h : i ≤ xs.length
  · rw [Nat.min_eq_left h]
    exact List.take_of_length_le (by simp)
  · rw [Nat.min_eq_right (by omega)]
    rw [List.drop_of_length_le (Nat.le_refl _), List.drop_of_length_le (by omega)]
    simp
theorem vd_k {a b : D} : valD [Sum.inr (Str.ofString "kinds"), Sum.inr (Str.ofString "rows")] [a, b] (Sum.inr (Str.ofString "kinds")) = some a := rfl
theorem vd_r {a b : D} : valD [Sum.inr (Str.ofString "kinds"), Sum.inr (Str.ofString "rows")] [a, b] (Sum.inr (Str.ofString "rows")) = some b := by
  have e : ¬ (Sum.inr (Str.ofString "kinds") : Key) = Sum.inr (Str.ofString "rows") := by simp; decide
  unfold valD
  rw [if_neg e]
  unfold valD
  exact if_pos rfl
theorem lim {n : Nat} (h : n < 1099511627776) : n < LIM := h
/-! what repr shows of small data -/
mutual
def smB : D → Bool
  | .int i => decide (i.natAbs < 1000)
  | .non => true
  | .bl _ => true
  | .tup xs => smA xs
  | _ => false
def smA : List D → Bool
  | [] => true
  | d :: ds => smB d && smA ds
end
mutual
def lnB : D → Nat
  | .int i => i.natAbs + 2
  | .non => 4
  | .bl _ => 5
  | .tup xs => lnA xs + 4
  | .lst xs => lnA xs + 4
  | _ => 0
def lnA : List D → Nat
  | [] => 0
  | d :: ds => lnB d + 2 + lnA ds
end
mutual
def dpB : D → Nat
  | .tup xs => dpA xs + 1
  | .lst xs => dpA xs + 1
  | _ => 0
def dpA : List D → Nat
  | [] => 0
  | d :: ds => max (dpB d) (dpA ds)
end
theorem tupText_le (ts : List Str) : (tupleText ts).length ≤ piled ts + 4 := by
  unfold tupleText
  rw [Str.length_append, Str.length_append]
  have h1 : (("(" : Str)).length = 1 := by decide
  have h2 : (Str.ofString (if (ts.length == 1) = true then ",)" else ")")).length ≤ 2 := by split <;> decide
  have h3 : (Str.join ", " ts).length ≤ piled ts := by
    cases ts with
    | nil => decide
    | cons a b =>
      have := join_length_add (a :: b) (by simp)
      omega
  omega
mutual
theorem sm_toP : ∀ d : D, smB d = true → ∃ p, toP d = some p ∧ p.showable = true ∧ p.hasDict = false ∧ p.depth ≤ dpB d ∧ p.shown.length ≤ lnB d
  | .int i, h => by
    have hi : i.natAbs < 1000 := by simpa [smB] using h
    refine ⟨.int i, rfl, ?_, rfl, Nat.le_refl _, ?_⟩
    · have := Nat.log2_le_self i.natAbs
      simp only [PySem.PyData.showable, decide_eq_true_eq]
      omega
    · have := PyProof.Rows.len_str_of_int i
      show (Str.ofString (toString i)).length ≤ i.natAbs + 2
      omega
  | .non, _ => ⟨.none, rfl, rfl, rfl, Nat.le_refl _, by decide⟩
  | .bl b, _ => ⟨.bool b, rfl, rfl, rfl, Nat.le_refl _, by cases b <;> decide⟩
  | .tup xs, h => by
    obtain ⟨ps, e, h1, h2, h3, h4⟩ := sm_toPs xs (by simpa [smB] using h)
    refine ⟨.tuple ps, by simp [toP, e], by simpa [PySem.PyData.showable] using h1, by simpa [PySem.PyData.hasDict] using h2, ?_, ?_⟩
    · show PySem.PyData.depthAll ps + 1 ≤ dpA xs + 1
      omega
    · have z := tupText_le (PySem.PyData.shownAll ps)
      show (tupleText (PySem.PyData.shownAll ps)).length ≤ lnA xs + 4
      omega
  | .lst _, h => by simp [smB] at h
  | .str _, h => by simp [smB] at h
  | .dic _ _, h => by simp [smB] at h
  | .ins _ _ _, h => by simp [smB] at h
  | .exc _ _ _, h => by simp [smB] at h
  | .fnv _, h => by simp [smB] at h
  | .lam _, h => by simp [smB] at h
  | .dit _ _, h => by simp [smB] at h
theorem sm_toPs : ∀ ds : List D, smA ds = true → ∃ ps, toPs ds = some ps ∧ PySem.PyData.showableAll ps = true ∧ PySem.PyData.hasDictAll ps = false ∧ PySem.PyData.depthAll ps ≤ dpA ds ∧ piled (PySem.PyData.shownAll ps) ≤ lnA ds
  | [], _ => ⟨[], rfl, rfl, rfl, Nat.le_refl _, Nat.le_refl _⟩
  | d :: ds, h => by
    simp only [smA, Bool.and_eq_true] at h
    obtain ⟨p, e, h1, h2, h3, h4⟩ := sm_toP d h.1
    obtain ⟨ps, e', g1, g2, g3, g4⟩ := sm_toPs ds h.2
    refine ⟨p :: ps, by simp [toPs, e, e'], by simp [PySem.PyData.showableAll, h1, g1], by simp [PySem.PyData.hasDictAll, h2, g2], ?_, ?_⟩
    · simp only [PySem.PyData.depthAll, dpA]
      omega
    · simp only [PySem.PyData.shownAll, lnA]
      rw [piled_cons]
      omega
end
theorem lnA_le {M : Nat} : ∀ {ds : List D}, (∀ d ∈ ds, lnB d ≤ M) → lnA ds ≤ ds.length * (M + 2)
  | [], _ => Nat.zero_le _
  | d :: ds, h => by
    have h1 := h d List.mem_cons_self
    have h2 := lnA_le (M := M) (ds := ds) fun e he => h e (List.mem_cons_of_mem _ he)
    simp only [lnA, List.length_cons]
    rw [Nat.succ_mul]
    omega
theorem dpA_le {M : Nat} : ∀ {ds : List D}, (∀ d ∈ ds, dpB d ≤ M) → dpA ds ≤ M
  | [], _ => Nat.zero_le _
  | d :: ds, h => by
    have h1 := h d List.mem_cons_self
    have h2 := dpA_le (M := M) (ds := ds) fun e he => h e (List.mem_cons_of_mem _ he)
    simp only [dpA]
    omega
theorem smA_of : ∀ {ds : List D}, (∀ d ∈ ds, smB d = true) → smA ds = true
  | [], _ => rfl
  | d :: ds, h => by simp only [smA, Bool.and_eq_true]; exact ⟨h d List.mem_cons_self, smA_of fun e he => h e (List.mem_cons_of_mem _ he)⟩
/-- a list made by drawing -/
theorem compM_gen {step : D → Nat → (Option D → Nat → Prop) → Prop} {c N : Nat} {good : D → D → Prop} : ∀ (xs : List D) (n : Nat) (P : List D → Nat → Prop), n + c * xs.length ≤ N →
    (∀ x ∈ xs, ∀ (m : Nat) (k : Option D → Nat → Prop), m + c ≤ N → (∀ d m', m' ≤ m + c → good x d → k (some d) m') → step x m k) →
    (∀ (ds : List D) (m' : Nat), m' ≤ n + c * xs.length → ds.length = xs.length → (∀ (i : Nat) (x d : D), xs[i]? = some x → ds[i]? = some d → good x d) → P ds m') → compM step xs n P
  | [], n, P, _, _, h => h [] n (by simp) rfl fun i x d e => by simp at e
  | x :: xs, n, P, hN, hs, h => by
    have e : c * (x :: xs).length = c * xs.length + c := by rw [List.length_cons, Nat.mul_succ]
    rw [e] at hN
    refine hs x List.mem_cons_self n _ (by omega) fun d m' hm hd => ?_
    refine compM_gen xs m' _ (by omega) (fun y hy => hs y (List.mem_cons_of_mem _ hy)) fun ds m2 h2 hl hg => ?_
    refine h (d :: ds) m2 (by rw [e]; omega) (by simp [hl]) fun i y d' e1 e2 => ?_
    cases i with
    | zero =>
      simp at e1 e2
      rw [← e1, ← e2]
      exact hd
    | succ i => exact hg i y d' (by simpa using e1) (by simpa using e2)
theorem range_len {m : Nat} : (rangeD 0 (m : Int).toNat).length = m := by simp [rangeD]
theorem range_mem {m : Nat} {x : D} (h : x ∈ rangeD 0 (m : Int).toNat) : ∃ i : Nat, i < m ∧ x = .int (i : Int) := by
  unfold rangeD at h
  rw [Int.toNat_natCast] at h
  obtain ⟨i, hi, rfl⟩ := List.mem_map.mp h
  exact ⟨i, List.mem_range.mp hi, by simp⟩
theorem range_get {m i : Nat} {x : D} (h : (rangeD 0 (m : Int).toNat)[i]? = some x) : i < m ∧ x = .int (i : Int) := by
  unfold rangeD at h
  rw [Int.toNat_natCast, List.getElem?_map] at h
  cases e : (List.range m)[i]? with
  | none => rw [e] at h; cases h
  | some j =>
    rw [e] at h
    obtain ⟨h3, h4⟩ := List.getElem?_eq_some_iff.mp e
    simp at h3 h4
    subst h4
    cases h
    exact ⟨h3, by simp⟩
theorem upd_upd {H : L2.Hp} {p : Addr} {o u : L2.HO} : L2.upd (L2.upd H p o) p u = L2.upd H p u := by
  funext b
  by_cases h : b = p
  · rw [h, L2.upd_same, L2.upd_same]
  · rw [L2.upd_ne h, L2.upd_ne h, L2.upd_ne h]
def absI (z : Int) : Int := if z < 0 then -z else z
def bigI (ys : List Int) : List Int := (ys.filter fun y => decide ((10 : Int) ^ 18 ≤ y)).map fun y => y - 10 ^ 18
theorem bigI_snoc {ys : List Int} {y : Int} : bigI (ys ++ [y]) = if (10 : Int) ^ 18 ≤ y then bigI ys ++ [y - 10 ^ 18] else bigI ys := by
  unfold bigI
  rw [List.filter_append, List.map_append]
  by_cases h : (10 : Int) ^ 18 ≤ y
  · rw [if_pos h, List.filter_cons_of_pos (by simpa using h)]
    rfl
  · rw [if_neg h, List.filter_cons_of_neg (by simpa using h)]
    simp
/-! ### rows of ints, lots -/
def toI : D → Int
  | .int i => i
  | _ => 0
def intsOf (xs : List D) : List Int := xs.map toI
theorem betw_int {lo hi : Int} {d : D} (h : betw lo hi d = true) : d = .int (toI d) ∧ lo ≤ toI d ∧ toI d ≤ hi := by
  cases d with
  | int i => simpa [betw, toI] using h
  | _ => simp [betw] at h
theorem ints_eq {lo hi : Int} : ∀ {xs : List D}, xs.all (betw lo hi) = true → xs = (intsOf xs).map D.int
  | [], _ => rfl
  | x :: xs, h => by
    simp only [List.all_cons, Bool.and_eq_true] at h
    show x :: xs = D.int (toI x) :: (intsOf xs).map D.int
    rw [← (betw_int h.1).1, ← ints_eq h.2]
theorem intsOf_map {ns : List Int} : intsOf (ns.map D.int) = ns := by
  unfold intsOf
  rw [List.map_map]
  conv => rhs; rw [← List.map_id ns]
  rfl
def risB : List Int → Bool
  | [] => true
  | [_] => true
  | a :: b :: l => decide (a < b) && risB (b :: l)
theorem risB_zip : ∀ {ns : List Int}, ((ns.zip (ns.drop 1)).all fun p => decide (p.1 < p.2)) = risB ns
  | [] => rfl
  | [_] => rfl
  | a :: b :: l => by
    have z := risB_zip (ns := b :: l)
    show (decide (a < b) && (((b :: l).zip ((b :: l).drop 1)).all fun p => decide (p.1 < p.2))) = _
    rw [z]
    rfl
def shortD : D → Bool
  | .tup xs => decide (xs.length ≤ 100)
  | _ => true
theorem cut_from_one {xs : List D} : cutD xs (some 1) none = xs.drop 1 := cut_from (i := 1)
theorem zip_ints : ∀ {ns ms : List Int}, zipD (ns.map D.int) (ms.map D.int) = (ns.zip ms).map fun p => D.tup [.int p.1, .int p.2]
  | [], _ => by simp [zipD]
  | _ :: _, [] => by simp [zipD]
  | n :: ns, m :: ms => by
    have z := zip_ints (ns := ns) (ms := ms)
    unfold zipD at z ⊢
    simp only [List.map_cons, List.zip_cons_cons, z]
theorem rising_zip {ns : List Int} : zipD (ns.map D.int) ((ns.map D.int).drop 1) = (ns.zip (ns.drop 1)).map fun p => D.tup [.int p.1, .int p.2] := by
  rw [← List.map_drop, zip_ints]
theorem len0 {xs : List D} : decide ((xs.length : Int) = 0) = xs.isEmpty := by
  cases xs with
  | nil => rfl
  | cons x t =>
    have : ¬ ((x :: t).length : Int) = 0 := by simp only [List.length_cons]; omega
    rw [decide_eq_false this]
    rfl
theorem intsOf_len {xs : List D} : (intsOf xs).length = xs.length := by simp [intsOf]
theorem ris_pair : ∀ {ns : List Int}, risB ns = true → ns.Pairwise (· < ·)
  | [], _ => .nil
  | [a], _ => List.pairwise_singleton _ _
  | a :: b :: l, h => by
    simp only [risB, Bool.and_eq_true, decide_eq_true_eq] at h
    have z := ris_pair h.2
    refine .cons (fun c hc => ?_) z
    rcases List.mem_cons.mp hc with rfl | hc
    · exact h.1
    · have := (List.pairwise_cons.mp z).1 c hc
      omega
theorem ris_nodup {ns : List Int} (h : risB ns = true) : ns.Nodup := (ris_pair h).imp fun h => by omega
theorem natsI_len {m : Nat} : (natsI m).length = m := by simp [natsI]
theorem nxs_ints {ns : List Int} : nxs (ns.map D.int) = true := nxs_of fun d hd => by
  obtain ⟨i, _, rfl⟩ := List.mem_map.mp hd
  rfl
/-! ### tables made of tables -/
/-! ### tables told over and over -/
/-! tables of two customs -/
open SCo
def own0 (rss : List (List Int)) (m : Nat) : Int := (rss.headD []).getD m 0
def sharedL (xs ys : List Int) : List Int := xs.filter fun x => ys.any (· == x)
def crossB (xs ys : List Int) : Bool := decide (0 < (sharedL xs ys).length) && decide ((sharedL xs ys).length < min xs.length ys.length)
def inF (ys : List Int) : D → Option D
  | .int x => match ys.any (· == x) with
    | true => some (.int x)
    | false => none
  | _ => none
theorem inF_map {ys : List Int} : ∀ {xs : List Int}, (xs.map D.int).filterMap (inF ys) = (sharedL xs ys).map D.int
  | [] => rfl
  | x :: xs => by
    have ih := inF_map (ys := ys) (xs := xs)
    show ((D.int x) :: xs.map D.int).filterMap (inF ys) = _
    rw [List.filterMap_cons]
    unfold sharedL at ih ⊢
    rw [List.filter_cons]
    cases h : ys.any (· == x) with
    | true =>
      have e : inF ys (.int x) = some (.int x) := by simp only [inF, h]
      rw [e, ih]
      rfl
    | false =>
      have e : inF ys (.int x) = none := by simp only [inF, h]
      rw [e, ih]
      rfl
theorem hd_ok {nss : List (List Int)} (h : ∀ l ∈ nss, l ≠ []) : SCo.HdOk nss := by
  cases nss with
  | nil => exact .inl (by simp)
  | cons a l => exact .inr ⟨a, l, rfl, h a List.mem_cons_self⟩
theorem sortL_perm (nss : List (List Int)) : (sortL nss).Perm nss := List.mergeSort_perm ..
theorem nlen {α : Type} [DecidableEq α] : ∀ {l m : List α}, l.Nodup → (∀ x ∈ l, x ∈ m) → l.length ≤ m.length
  | [], _, _, _ => Nat.zero_le _
  | a :: l, m, h, g => by
    obtain ⟨h1, h2⟩ := List.nodup_cons.mp h
    have z := nlen (l := l) (m := m.erase a) h2 fun x hx => (List.mem_erase_of_ne (fun e => h1 (by rw [← e]; exact hx))).mpr (g x (List.mem_cons_of_mem _ hx))
    rw [List.length_erase_of_mem (g a List.mem_cons_self)] at z
    have := List.length_pos_of_mem (g a List.mem_cons_self)
    simp only [List.length_cons]
    omega
theorem any_mem {ys : List Int} {x : Int} : ys.any (· == x) = true ↔ x ∈ ys := by
  rw [List.any_eq_true]
  constructor
  · rintro ⟨y, hy, e⟩
    rw [← eq_of_beq e]
    exact hy
  · exact fun h => ⟨x, h, by simp⟩
theorem shared_mem {xs ys : List Int} {x : Int} : x ∈ sharedL xs ys ↔ x ∈ xs ∧ x ∈ ys := by
  unfold sharedL
  rw [List.mem_filter, any_mem]
theorem cross_iff {xs ys : List Int} (hx : xs.Nodup) (hy : ys.Nodup) : crossB xs ys = true ↔ (∃ v, v ∈ xs ∧ v ∈ ys) ∧ (∃ v, v ∈ xs ∧ v ∉ ys) ∧ ∃ v, v ∈ ys ∧ v ∉ xs := by
  have hs : (sharedL xs ys).Nodup := hx.filter _
  unfold crossB
  rw [Bool.and_eq_true, decide_eq_true_eq, decide_eq_true_eq]
  have le1 : (sharedL xs ys).length ≤ xs.length := nlen hs fun x h => (shared_mem.mp h).1
  have le2 : (sharedL xs ys).length ≤ ys.length := nlen hs fun x h => (shared_mem.mp h).2
  constructor
  · rintro ⟨h1, h2⟩
    refine ⟨?_, ?_, ?_⟩
    · obtain ⟨v, hv⟩ := List.exists_mem_of_length_pos h1
      exact ⟨v, shared_mem.mp hv⟩
    · refine Classical.byContradiction fun no => ?_
      have z : xs.length ≤ (sharedL xs ys).length := nlen hx fun x h => shared_mem.mpr ⟨h, Classical.byContradiction fun h' => no ⟨x, h, h'⟩⟩
      omega
    · refine Classical.byContradiction fun no => ?_
      have z : ys.length ≤ (sharedL xs ys).length := nlen hy fun x h => shared_mem.mpr ⟨Classical.byContradiction fun h' => no ⟨x, h, h'⟩, h⟩
      omega
  · rintro ⟨⟨v, v1, v2⟩, ⟨u, u1, u2⟩, ⟨w, w1, w2⟩⟩
    have p1 : 0 < (sharedL xs ys).length := List.length_pos_of_mem (shared_mem.mpr ⟨v1, v2⟩)
    have q1 : (u :: sharedL xs ys).length ≤ xs.length := nlen (List.nodup_cons.mpr ⟨fun h => u2 (shared_mem.mp h).2, hs⟩) fun x h => by
      rcases List.mem_cons.mp h with z | z
      · rw [z]; exact u1
      · exact (shared_mem.mp z).1
    have q2 : (w :: sharedL xs ys).length ≤ ys.length := nlen (List.nodup_cons.mpr ⟨fun h => w2 (shared_mem.mp h).1, hs⟩) fun x h => by
      rcases List.mem_cons.mp h with z | z
      · rw [z]; exact w1
      · exact (shared_mem.mp z).2
    simp only [List.length_cons] at q1 q2
    omega
/-! trees -/
open SCo
def intsD : D → List Int
  | .tup ds => intsOf ds
  | _ => []
theorem intsD_tup {r : List Int} : intsD (tupI r) = r := intsOf_map
def pairI (t : Int × Int) : D := tupI [t.1, t.2]
def atB (p : Int) (t : Int × Int) : Bool := decide (t.1 = p ∨ t.2 = p)
def atF (p : Int) : D → Option D
  | .tup [.int a, .int b] => match atB p (a, b) with
    | true => some (pairI (a, b))
    | false => none
  | _ => none
theorem atF_map {p : Int} : ∀ {ts : List (Int × Int)}, (ts.map pairI).filterMap (atF p) = (ts.filter (atB p)).map pairI
  | [] => rfl
  | t :: ts => by
    have ih := atF_map (p := p) (ts := ts)
    rw [List.map_cons, List.filterMap_cons, List.filter_cons]
    cases h : atB p t with
    | true =>
      have e : atF p (pairI t) = some (pairI t) := by
        show (match atB p (t.1, t.2) with | true => some (pairI (t.1, t.2)) | false => none) = _
        rw [h]
      rw [e, ih]
      rfl
    | false =>
      have e : atF p (pairI t) = none := by
        show (match atB p (t.1, t.2) with | true => some (pairI (t.1, t.2)) | false => none) = _
        rw [h]
      rw [e, ih]
      rfl
def keyI (i : Int) : Key := .inl i
/-- what steps_to has found: places in turn, and the next one on the way of each -/
structure StepI (ts : List (Int × Int)) (goal : Int) (ks vs stack : List Int) : Prop where
  nd : ks.Nodup
  ln : vs.length = ks.length
  hd : ks[0]? = some goal
  hv : vs[0]? = some goal
  rng : ∀ k ∈ ks, 0 ≤ k ∧ k ≤ (ts.length : Int)
  sub : ∀ s ∈ stack, s ∈ ks
  snd : stack.Nodup
  back : ∀ (i : Nat) (k v : Int), 1 ≤ i → ks[i]? = some k → vs[i]? = some v → ((k, v) ∈ ts ∨ (v, k) ∈ ts) ∧ ∃ j : Nat, j < i ∧ ks[j]? = some v
structure StepsOk (ts : List (Int × Int)) (goal : Int) (ks vs : List Int) : Prop where
  i : StepI ts goal ks vs []
  cl : ∀ t ∈ ts, (t.1 ∈ ks ↔ t.2 ∈ ks)
structure TsOk (ts : List (Int × Int)) : Prop where
  l : ts.length ≤ 60
  b : ∀ t ∈ ts, 0 ≤ t.1 ∧ t.1 ≤ (ts.length : Int) ∧ 0 ≤ t.2 ∧ t.2 ≤ (ts.length : Int)
theorem nlenT {α : Type} [DecidableEq α] : ∀ {l m : List α}, l.Nodup → (∀ x ∈ l, x ∈ m) → l.length ≤ m.length
  | [], _, _, _ => Nat.zero_le _
  | a :: l, m, h, g => by
    obtain ⟨h1, h2⟩ := List.nodup_cons.mp h
    have z := nlenT (l := l) (m := m.erase a) h2 fun x hx => (List.mem_erase_of_ne (fun e => h1 (by rw [← e]; exact hx))).mpr (g x (List.mem_cons_of_mem _ hx))
    rw [List.length_erase_of_mem (g a List.mem_cons_self)] at z
    have := List.length_pos_of_mem (g a List.mem_cons_self)
    simp only [List.length_cons]
    omega
def upTo (n : Nat) : List Int := (List.range (n + 1)).map Int.ofNat
theorem upTo_mem {n : Nat} {k : Int} : k ∈ upTo n ↔ 0 ≤ k ∧ k ≤ (n : Int) := by
  unfold upTo
  rw [List.mem_map]
  constructor
  · rintro ⟨i, hi, rfl⟩
    have := List.mem_range.mp hi
    exact ⟨Int.natCast_nonneg i, by show (i : Int) ≤ n; omega⟩
  · rintro ⟨h0, h1⟩
    exact ⟨k.toNat, List.mem_range.mpr (by omega), Int.toNat_of_nonneg h0⟩
theorem upTo_len {n : Nat} : (upTo n).length = n + 1 := by unfold upTo; rw [List.length_map, List.length_range]
theorem StepI.few {ts : List (Int × Int)} {goal : Int} {ks vs st : List Int} (h : StepI ts goal ks vs st) : ks.length ≤ ts.length + 1 := by
  have z := nlenT h.nd (m := upTo ts.length) fun k hk => upTo_mem.mpr (h.rng k hk)
  rw [upTo_len] at z
  exact z
theorem stepI_start {ts : List (Int × Int)} {goal : Int} (g0 : 0 ≤ goal) (g1 : goal ≤ (ts.length : Int)) : StepI ts goal [goal] [goal] [goal] :=
  ⟨by simp, rfl, rfl, rfl, fun k hk => by rw [List.mem_singleton.mp hk]; exact ⟨g0, g1⟩, fun s hs => hs, by simp, fun i k v hi hk _ => by
    rw [List.getElem?_eq_none (by simp only [List.length_cons, List.length_nil]; omega)] at hk
    cases hk⟩
theorem stepI_add {ts : List (Int × Int)} {goal f pl : Int} {ks vs st : List Int} (h : StepI ts goal ks vs st) (hp : pl ∈ ks) (hf : f ∉ ks) (ht : (f, pl) ∈ ts ∨ (pl, f) ∈ ts) (f0 : 0 ≤ f) (f1 : f ≤ (ts.length : Int)) : StepI ts goal (ks ++ [f]) (vs ++ [pl]) (st ++ [f]) := by
  have hne : 0 < ks.length := List.length_pos_of_mem hp
  refine ⟨?_, by rw [List.length_append, List.length_append, h.ln]; rfl, ?_, ?_, fun k hk => ?_, fun s hs => ?_, ?_, fun i k v hi hk hv => ?_⟩
  · rw [List.nodup_append]
    exact ⟨h.nd, by simp, fun a ha b hb e => by rw [List.mem_singleton.mp hb] at e; exact hf (by rw [← e]; exact ha)⟩
  · rw [List.getElem?_append_left hne]
    exact h.hd
  · rw [List.getElem?_append_left (by rw [h.ln]; exact hne)]
    exact h.hv
  · rcases List.mem_append.mp hk with hk | hk
    · exact h.rng k hk
    · rw [List.mem_singleton.mp hk]
      exact ⟨f0, f1⟩
  · rcases List.mem_append.mp hs with hs | hs
    · exact List.mem_append_left _ (h.sub s hs)
    · exact List.mem_append_right _ hs
  · rw [List.nodup_append]
    exact ⟨h.snd, by simp, fun a ha b hb e => by rw [List.mem_singleton.mp hb] at e; exact hf (by rw [← e]; exact h.sub a ha)⟩
  · by_cases hlt : i < ks.length
    · rw [List.getElem?_append_left hlt] at hk
      rw [List.getElem?_append_left (by rw [h.ln]; exact hlt)] at hv
      obtain ⟨h1, j, hj, e⟩ := h.back i k v hi hk hv
      exact ⟨h1, j, hj, by rw [List.getElem?_append_left (by omega)]; exact e⟩
    · have hil : i < (ks ++ [f]).length := (List.getElem?_eq_some_iff.mp hk).1
      rw [List.length_append] at hil
      simp only [List.length_cons, List.length_nil] at hil
      have hi2 : i = ks.length := by omega
      subst hi2
      rw [List.getElem?_append_right (Nat.le_refl _), Nat.sub_self] at hk
      rw [List.getElem?_append_right (by rw [h.ln]; exact Nat.le_refl _), h.ln, Nat.sub_self] at hv
      cases hk
      cases hv
      obtain ⟨j, e⟩ := List.mem_iff_getElem?.mp hp
      have hj := (List.getElem?_eq_some_iff.mp e).1
      exact ⟨ht, j, hj, by rw [List.getElem?_append_left hj]; exact e⟩
theorem stepI_pop {ts : List (Int × Int)} {goal y : Int} {ks vs ys : List Int} (h : StepI ts goal ks vs (ys ++ [y])) : StepI ts goal ks vs ys ∧ y ∈ ks ∧ y ∉ ys := by
  have hn := h.snd
  rw [List.nodup_append] at hn
  exact ⟨⟨h.nd, h.ln, h.hd, h.hv, h.rng, fun s hs => h.sub s (List.mem_append_left _ hs), hn.1, h.back⟩, h.sub y (List.mem_append_right _ (List.mem_singleton.mpr rfl)), fun hy => hn.2.2 y hy y (List.mem_singleton.mpr rfl) rfl⟩
/-- all is done for the places that are neither in the stack nor among these -/
def DoneI (ts : List (Int × Int)) (ks st ex : List Int) : Prop := ∀ k ∈ ks, k ∉ st → k ∉ ex → ∀ t ∈ ts, (t.1 = k → t.2 ∈ ks) ∧ (t.2 = k → t.1 ∈ ks)
theorem doneI_add {ts : List (Int × Int)} {ks st ex : List Int} {f : Int} (h : DoneI ts ks st ex) : DoneI ts (ks ++ [f]) (st ++ [f]) ex := fun k hk hs hx t ht => by
  have hf : k ≠ f := fun e => hs (List.mem_append_right _ (List.mem_singleton.mpr e))
  have hk' : k ∈ ks := (List.mem_append.mp hk).resolve_right fun z => hf (List.mem_singleton.mp z)
  obtain ⟨a, b⟩ := h k hk' (fun z => hs (List.mem_append_left _ z)) hx t ht
  exact ⟨fun e => List.mem_append_left _ (a e), fun e => List.mem_append_left _ (b e)⟩
theorem keys_in {k : Int} {ks : List Int} : keyIn (keyI k) (ks.map keyI) = decide (k ∈ ks) := by
  by_cases h : k ∈ ks
  · rw [decide_eq_true h]
    exact keyIn_mem.mpr (List.mem_map_of_mem h)
  · rw [decide_eq_false h, Bool.eq_false_iff]
    intro z
    obtain ⟨j, hj, e⟩ := List.mem_map.mp (keyIn_mem.mp z)
    cases e
    exact h hj
/-! judging ties and seats -/
def risL (nss : List (List Int)) : Bool := (nss.zip (nss.drop 1)).all fun p => ltI p.1 p.2
def ltF : D → D
  | .tup [.int a, .int b] => .bl (decide (a < b))
  | .tup [.tup xs, .tup ys] => .bl (ltI (intsOf xs) (intsOf ys))
  | _ => .non
theorem zipT_map {nss : List (List Int)} : ∀ {mss : List (List Int)}, zipD (nss.map tupI) (mss.map tupI) = (nss.zip mss).map fun p => .tup [tupI p.1, tupI p.2] := by
  intro mss
  unfold zipD
  rw [List.zip_map, List.map_map]
  rfl
def lotB2 (lo hi : Int) : D → Bool
  | .tup xs => !xs.isEmpty && xs.all (betw lo hi) && risB (intsOf xs)
  | _ => false
def tR : List PySem.Str := ["ties", "seats"]
def treeD (C : Addr) (ts : List (Int × Int)) (seats : List Int) : D := .ins C tR [.tup (ts.map pairI), tupI seats]
structure TiesOk (ts : List (Int × Int)) : Prop where
  l : ts.length ≤ 21
  b : ∀ t ∈ ts, 0 ≤ t.1 ∧ t.1 < t.2 ∧ t.2 ≤ (ts.length : Int)
  ris : risL (ts.map fun t => [t.1, t.2]) = true
  conn : ∀ ks vs, StepsOk ts 0 ks vs → ks.length = ts.length + 1
structure SeatsOk (ts : List (Int × Int)) (seats : List Int) : Prop where
  l : 1 ≤ seats.length ∧ seats.length ≤ 12
  b : ∀ s ∈ seats, 0 ≤ s ∧ s ≤ (ts.length : Int)
  lost : ∀ p : Int, 0 ≤ p → p ≤ (ts.length : Int) → p ∉ seats → 3 ≤ (ts.filter (atB p)).length
theorem pair_lot {ts : List (Int × Int)} (t : TiesOk ts) {e : Int × Int} (he : e ∈ ts) : lotB2 0 (ts.length : Int) (pairI e) = true := by
  obtain ⟨h0, h1, h2⟩ := t.b e he
  show (!([D.int e.1, D.int e.2] : List D).isEmpty && ([D.int e.1, D.int e.2] : List D).all (betw 0 (ts.length : Int)) && risB (intsOf [D.int e.1, D.int e.2])) = true
  have r : risB (intsOf [D.int e.1, D.int e.2]) = true := by
    show risB [e.1, e.2] = true
    simp [risB, h1]
  rw [r]
  simp only [List.isEmpty_cons, Bool.not_false, List.all_cons, List.all_nil, betw, Bool.and_true, Bool.true_and, Bool.and_eq_true, decide_eq_true_eq]
  omega
def lostF (seats : List Int) : D → Option D
  | .int i => match !(seats.any fun z => z == i) with
    | true => some (.int i)
    | false => none
  | _ => none
theorem lostF_some {seats : List Int} {i : Int} {x : D} (h : lostF seats (.int i) = some x) : x = .int i ∧ i ∉ seats := by
  have h : (match !(seats.any fun z => z == i) with | true => some (D.int i) | false => none) = some x := h
  cases e : !(seats.any fun z => z == i) with
  | true =>
    rw [e] at h
    cases h
    refine ⟨rfl, fun hm => ?_⟩
    have z : (seats.any fun z => z == i) = true := List.any_eq_true.mpr ⟨i, hm, by simp⟩
    rw [z] at e
    cases e
  | false =>
    rw [e] at h
    cases h
theorem upTo_nodup {n : Nat} : (upTo n).Nodup := by
  unfold upTo
  refine List.pairwise_map.mpr (List.nodup_range.imp fun h e => h ?_)
  exact Int.ofNat.inj e
/-! the normal tree of a family of lots -/
structure Fam (many : Nat) (ls : List (List Int)) : Prop where
  ne : ∀ l ∈ ls, l ≠ []
  nd : ls.Nodup
  el : ∀ l ∈ ls, l.Pairwise (· < ·) ∧ ∀ v ∈ l, 1 ≤ v ∧ v < (many : Int)
  lam : ∀ a ∈ ls, ∀ b ∈ ls, (∀ v, v ∈ a → v ∉ b) ∨ (∀ v ∈ a, v ∈ b) ∨ (∀ v ∈ b, v ∈ a)
  ln : ls.length ≤ 21
theorem sub_all {a b : List Int} (ha : a.Pairwise (· < ·)) (hb : b.Pairwise (· < ·)) (h : ∀ v ∈ a, v ∈ b) (hl : b.length ≤ a.length) : a = b := by
  have na : a.Nodup := ha.imp fun h => by omega
  have nb : b.Nodup := hb.imp fun h => by omega
  have g : ∀ v ∈ b, v ∈ a := fun v hv => by
    refine Classical.byContradiction fun hn => ?_
    have z := nlenT na (m := b.erase v) fun x hx => (List.mem_erase_of_ne (fun e => hn (by rw [← e]; exact hx))).mpr (h x hx)
    rw [List.length_erase_of_mem hv] at z
    have := List.length_pos_of_mem hv
    omega
  have hp : a.Perm b := (List.perm_ext_iff_of_nodup na nb).mpr fun v => ⟨h v, g v⟩
  exact List.Perm.eq_of_pairwise (le := fun x y : Int => x < y) (fun x y _ _ h1 h2 => by omega) ha hb hp
theorem Fam.lt {many : Nat} {ls : List (List Int)} (f : Fam many ls) {a b : List Int} (ha : a ∈ ls) (hb : b ∈ ls) (h : ∀ v ∈ a, v ∈ b) (hne : a ≠ b) : a.length < b.length := by
  refine Classical.byContradiction fun hn => hne (sub_all (f.el a ha).1 (f.el b hb).1 h (by omega))
def lotN (ls : List (List Int)) (i : Nat) : List Int := ls.getD i []
theorem lotN_mem {ls : List (List Int)} {i : Nat} (h : i < ls.length) : lotN ls i ∈ ls ∧ ls[i]? = some (lotN ls i) := by
  have e : ls[i]? = some (lotN ls i) := by
    unfold lotN
    rw [List.getD_eq_getElem?_getD, List.getElem?_eq_getElem h]
    rfl
  exact ⟨List.mem_of_getElem? e, e⟩
theorem lotN_inj {ls : List (List Int)} (hn : ls.Nodup) {i j : Nat} (hi : i < ls.length) (hj : j < ls.length) (h : lotN ls i = lotN ls j) : i = j := by
  have e1 := (lotN_mem hi).2
  have e2 := (lotN_mem hj).2
  rw [h] at e1
  exact (List.getElem?_inj hi hn).mp (e1.trans e2.symm)
def subB (a b : List Int) : Bool := a.all fun x => decide (x ∈ b)
theorem subB_iff {a b : List Int} : subB a b = true ↔ ∀ v ∈ a, v ∈ b := by
  unfold subB
  rw [List.all_eq_true]
  exact ⟨fun h v hv => of_decide_eq_true (h v hv), fun h v hv => decide_eq_true (h v hv)⟩
def aboveN (ls : List (List Int)) (i : Nat) : List Nat := (List.range ls.length).filter fun j => decide (j ≠ i) && subB (lotN ls i) (lotN ls j)
def ownN (ls : List (List Int)) (v : Int) : List Nat := (List.range ls.length).filter fun i => decide (v ∈ lotN ls i)
def leastN (ls : List (List Int)) (js : List Nat) : List Nat := js.filter fun j => js.all fun k => !decide ((lotN ls k).length < (lotN ls j).length)
def headN : List Nat → Nat
  | [] => 0
  | j :: _ => j + 1
theorem leastN_ex {ls : List (List Int)} : ∀ {js : List Nat}, js ≠ [] → ∃ j ∈ js, ∀ k ∈ js, (lotN ls j).length ≤ (lotN ls k).length
  | [], h => absurd rfl h
  | [j], _ => ⟨j, List.mem_singleton.mpr rfl, fun k hk => by rw [List.mem_singleton.mp hk]; exact Nat.le_refl _⟩
  | j :: j2 :: js, _ => by
    obtain ⟨m, hm, g⟩ := leastN_ex (ls := ls) (js := j2 :: js) (by simp)
    by_cases h : (lotN ls j).length ≤ (lotN ls m).length
    · refine ⟨j, List.mem_cons_self, fun k hk => ?_⟩
      rcases List.mem_cons.mp hk with rfl | hk
      · exact Nat.le_refl _
      · exact Nat.le_trans h (g k hk)
    · refine ⟨m, List.mem_cons_of_mem _ hm, fun k hk => ?_⟩
      rcases List.mem_cons.mp hk with rfl | hk
      · omega
      · exact g k hk
theorem headN_least {ls : List (List Int)} {js : List Nat} (h : js ≠ []) : ∃ j, headN (leastN ls js) = j + 1 ∧ j ∈ js ∧ ∀ k ∈ js, (lotN ls j).length ≤ (lotN ls k).length := by
  obtain ⟨m, hm, g⟩ := leastN_ex (ls := ls) h
  have hin : m ∈ leastN ls js := List.mem_filter.mpr ⟨hm, List.all_eq_true.mpr fun k hk => by
    have := g k hk
    simp only [Bool.not_eq_true', decide_eq_false_iff_not]
    omega⟩
  cases e : leastN ls js with
  | nil => rw [e] at hin; cases hin
  | cons j l =>
    have hj : j ∈ leastN ls js := by rw [e]; exact List.mem_cons_self
    obtain ⟨h1, h2⟩ := List.mem_filter.mp hj
    refine ⟨j, rfl, h1, fun k hk => ?_⟩
    have z := List.all_eq_true.mp h2 k hk
    simp only [Bool.not_eq_true', decide_eq_false_iff_not] at z
    omega
def parN (ls : List (List Int)) (i : Nat) : Nat := headN (leastN ls (aboveN ls i))
def seatN (ls : List (List Int)) (v : Int) : Nat := headN (leastN ls (ownN ls v))
theorem aboveN_mem {ls : List (List Int)} {i j : Nat} : j ∈ aboveN ls i ↔ j < ls.length ∧ j ≠ i ∧ ∀ v ∈ lotN ls i, v ∈ lotN ls j := by
  unfold aboveN
  rw [List.mem_filter, List.mem_range, Bool.and_eq_true, decide_eq_true_eq, subB_iff]
theorem ownN_mem {ls : List (List Int)} {i : Nat} {v : Int} : i ∈ ownN ls v ↔ i < ls.length ∧ v ∈ lotN ls i := by
  unfold ownN
  rw [List.mem_filter, List.mem_range, decide_eq_true_eq]
/-- the parent of a lot: place 0, or a greater lot around it -/
theorem parN_up {many : Nat} {ls : List (List Int)} (f : Fam many ls) {i : Nat} (hi : i < ls.length) : parN ls i = 0 ∨ ∃ j, parN ls i = j + 1 ∧ j < ls.length ∧ (lotN ls i).length < (lotN ls j).length := by
  by_cases h : aboveN ls i = []
  · left
    unfold parN
    rw [h]
    rfl
  · obtain ⟨j, e, hj, _⟩ := headN_least (ls := ls) h
    obtain ⟨h1, h2, h3⟩ := aboveN_mem.mp hj
    exact .inr ⟨j, e, h1, f.lt (lotN_mem hi).1 (lotN_mem h1).1 h3 fun z => h2 (lotN_inj f.nd hi h1 z).symm⟩
theorem parN_le {many : Nat} {ls : List (List Int)} (f : Fam many ls) {i : Nat} (hi : i < ls.length) : parN ls i ≤ ls.length ∧ parN ls i ≠ i + 1 := by
  rcases parN_up f hi with e | ⟨j, e, hj, hl⟩
  · rw [e]
    exact ⟨Nat.zero_le _, by omega⟩
  · rw [e]
    refine ⟨hj, fun z => ?_⟩
    have : j = i := by omega
    subst this
    omega
def tieN (ls : List (List Int)) (i : Nat) : Int × Int := (((min (parN ls i) (i + 1) : Nat) : Int), ((max (parN ls i) (i + 1) : Nat) : Int))
theorem lotN_short {many : Nat} {ls : List (List Int)} (f : Fam many ls) {i : Nat} (hi : i < ls.length) : (lotN ls i).length ≤ many := by
  obtain ⟨h1, h2⟩ := f.el _ (lotN_mem hi).1
  have z := nlenT (l := lotN ls i) (m := upTo many) (h1.imp fun h => by omega) fun v hv => upTo_mem.mpr (by have := h2 v hv; omega)
  have z2 := nlenT (l := lotN ls i) (m := (upTo many).erase 0) (h1.imp fun h => by omega) fun v hv => (List.mem_erase_of_ne (by have := h2 v hv; omega)).mpr (upTo_mem.mpr (by have := h2 v hv; omega))
  rw [List.length_erase_of_mem (upTo_mem.mpr (by omega)), upTo_len] at z2
  omega
structure NormT (ls : List (List Int)) (ts : List (Int × Int)) : Prop where
  mem : ∀ t, t ∈ ts ↔ ∃ i, i < ls.length ∧ t = tieN ls i
  len : ts.length = ls.length
  ris : risL (ts.map fun t => [t.1, t.2]) = true
theorem norm_ties {many : Nat} {ls : List (List Int)} (f : Fam many ls) {ts : List (Int × Int)} (h : NormT ls ts) : TiesOk ts := by
  refine ⟨by rw [h.len]; exact f.ln, fun t ht => ?_, h.ris, fun ks vs hs => ?_⟩
  · obtain ⟨i, hi, rfl⟩ := (h.mem t).mp ht
    obtain ⟨h1, h2⟩ := parN_le f hi
    rw [h.len]
    show (0 : Int) ≤ ((min (parN ls i) (i + 1) : Nat) : Int) ∧ ((min (parN ls i) (i + 1) : Nat) : Int) < ((max (parN ls i) (i + 1) : Nat) : Int) ∧ ((max (parN ls i) (i + 1) : Nat) : Int) ≤ _
    omega
  · have z0 : (0 : Int) ∈ ks := List.mem_of_getElem? hs.i.hd
    have up : ∀ (d i : Nat), i < ls.length → many + 1 - (lotN ls i).length ≤ d → ((i + 1 : Nat) : Int) ∈ ks := by
      intro d
      induction d with
      | zero =>
        intro i hi hd
        have hb := lotN_short f hi
        omega
      | succ d ih =>
        intro i hi hd
        have ht := (h.mem (tieN ls i)).mpr ⟨i, hi, rfl⟩
        have hp : ((parN ls i : Nat) : Int) ∈ ks := by
          rcases parN_up f hi with e | ⟨j, e, hj, hl⟩
          · rw [e]; exact z0
          · rw [e]
            exact ih j hj (by have := lotN_short f hi; omega)
        have c := hs.cl _ ht
        have c' : (((min (parN ls i) (i + 1) : Nat) : Int) ∈ ks) ↔ (((max (parN ls i) (i + 1) : Nat) : Int) ∈ ks) := c
        by_cases hle : parN ls i ≤ i + 1
        · rw [Nat.min_eq_left hle, Nat.max_eq_right hle] at c'
          exact c'.mp hp
        · rw [Nat.min_eq_right (by omega), Nat.max_eq_left (by omega)] at c'
          exact c'.mpr hp
    have all : ∀ k ∈ upTo ts.length, k ∈ ks := fun k hk => by
      obtain ⟨k0, k1⟩ := upTo_mem.mp hk
      rw [h.len] at k1
      by_cases hz : k = 0
      · rw [hz]; exact z0
      · have z := up _ (k.toNat - 1) (by omega) (Nat.le_refl _)
        rw [show ((k.toNat - 1 + 1 : Nat) : Int) = k by omega] at z
        exact z
    have l1 := hs.i.few
    have l2 := nlenT upTo_nodup all
    rw [upTo_len] at l2
    omega
theorem tieN_inj {many : Nat} {ls : List (List Int)} (f : Fam many ls) {i j : Nat} (hi : i < ls.length) (hj : j < ls.length) (h : tieN ls i = tieN ls j) : i = j := by
  have e1 : ((min (parN ls i) (i + 1) : Nat) : Int) = ((min (parN ls j) (j + 1) : Nat) : Int) := congrArg Prod.fst h
  have e2 : ((max (parN ls i) (i + 1) : Nat) : Int) = ((max (parN ls j) (j + 1) : Nat) : Int) := congrArg Prod.snd h
  refine Classical.byContradiction fun hn => ?_
  have p1 : parN ls i = j + 1 := by omega
  have p2 : parN ls j = i + 1 := by omega
  rcases parN_up f hi with e | ⟨a, e, ha, hl⟩
  · omega
  · rcases parN_up f hj with e' | ⟨b, e', hb, hl'⟩
    · omega
    · have : a = j := by omega
      have : b = i := by omega
      subst a
      subst b
      omega
theorem greatest_ex {ls : List (List Int)} : ∀ {js : List Nat}, js ≠ [] → ∃ j ∈ js, ∀ k ∈ js, (lotN ls k).length ≤ (lotN ls j).length
  | [], h => absurd rfl h
  | [j], _ => ⟨j, List.mem_singleton.mpr rfl, fun k hk => by rw [List.mem_singleton.mp hk]; exact Nat.le_refl _⟩
  | j :: j2 :: js, _ => by
    obtain ⟨m, hm, g⟩ := greatest_ex (ls := ls) (js := j2 :: js) (by simp)
    by_cases h : (lotN ls m).length ≤ (lotN ls j).length
    · refine ⟨j, List.mem_cons_self, fun k hk => ?_⟩
      rcases List.mem_cons.mp hk with rfl | hk
      · exact Nat.le_refl _
      · exact Nat.le_trans (g k hk) h
    · refine ⟨m, List.mem_cons_of_mem _ hm, fun k hk => ?_⟩
      rcases List.mem_cons.mp hk with rfl | hk
      · omega
      · exact g k hk
/-- two lots with a valley in common: the shorter one lies in the other -/
theorem Fam.nest {many : Nat} {ls : List (List Int)} (f : Fam many ls) {i j : Nat} (hi : i < ls.length) (hj : j < ls.length) {v : Int} (vi : v ∈ lotN ls i) (vj : v ∈ lotN ls j) (hne : i ≠ j) :
    ((∀ v ∈ lotN ls i, v ∈ lotN ls j) ∧ (lotN ls i).length < (lotN ls j).length) ∨ ((∀ v ∈ lotN ls j, v ∈ lotN ls i) ∧ (lotN ls j).length < (lotN ls i).length) := by
  have mi := (lotN_mem hi).1
  have mj := (lotN_mem hj).1
  have ne : lotN ls i ≠ lotN ls j := fun z => hne (lotN_inj f.nd hi hj z)
  rcases f.lam _ mi _ mj with h | h | h
  · exact absurd vj (h v vi)
  · exact .inl ⟨h, f.lt mi mj h ne⟩
  · exact .inr ⟨h, f.lt mj mi h ne.symm⟩
/-- a valley that is not seated at a lot's place is in a lot whose parent that one is -/
theorem child_of {many : Nat} {ls : List (List Int)} (f : Fam many ls) {i : Nat} (hi : i < ls.length) {v : Int} (vi : v ∈ lotN ls i) (hs : seatN ls v ≠ i + 1) : ∃ c, c < ls.length ∧ c ≠ i ∧ v ∈ lotN ls c ∧ (∀ v ∈ lotN ls c, v ∈ lotN ls i) ∧ (lotN ls c).length < (lotN ls i).length ∧ parN ls c = i + 1 := by
  have hown : i ∈ ownN ls v := ownN_mem.mpr ⟨hi, vi⟩
  obtain ⟨j, ej, hj, hmin⟩ := headN_least (ls := ls) (js := ownN ls v) fun z => by rw [z] at hown; cases hown
  obtain ⟨hj1, hj2⟩ := ownN_mem.mp hj
  have hji : j ≠ i := fun z => hs (by unfold seatN; rw [ej, z])
  have hjl : (lotN ls j).length < (lotN ls i).length := by
    rcases f.nest hj1 hi hj2 vi hji with ⟨_, h⟩ | ⟨_, h⟩
    · exact h
    · have := hmin i hown
      omega
  obtain ⟨c, hc, hmax⟩ := greatest_ex (ls := ls) (js := (ownN ls v).filter fun k => decide ((lotN ls k).length < (lotN ls i).length)) fun z => by
    have : j ∈ (ownN ls v).filter fun k => decide ((lotN ls k).length < (lotN ls i).length) := List.mem_filter.mpr ⟨hj, decide_eq_true hjl⟩
    rw [z] at this
    cases this
  obtain ⟨hc1, hc2⟩ := List.mem_filter.mp hc
  obtain ⟨hcl, hcv⟩ := ownN_mem.mp hc1
  have hcs := of_decide_eq_true hc2
  have hci : c ≠ i := fun z => by rw [z] at hcs; omega
  have hsub : ∀ v ∈ lotN ls c, v ∈ lotN ls i := by
    rcases f.nest hcl hi hcv vi hci with ⟨h, _⟩ | ⟨_, h⟩
    · exact h
    · omega
  refine ⟨c, hcl, hci, hcv, hsub, hcs, ?_⟩
  have hab : i ∈ aboveN ls c := aboveN_mem.mpr ⟨hi, hci.symm, hsub⟩
  obtain ⟨p, ep, hp, hpm⟩ := headN_least (ls := ls) (js := aboveN ls c) fun z => by rw [z] at hab; cases hab
  obtain ⟨hp1, hp2, hp3⟩ := aboveN_mem.mp hp
  have hpi : p = i := by
    refine Classical.byContradiction fun hn => ?_
    have hle := hpm i hab
    have vp := hp3 v hcv
    have hlt : (lotN ls p).length < (lotN ls i).length := by
      rcases f.nest hp1 hi vp vi hn with ⟨_, h⟩ | ⟨_, h⟩
      · exact h
      · omega
    have hmx := hmax p (List.mem_filter.mpr ⟨ownN_mem.mpr ⟨hp1, vp⟩, decide_eq_true hlt⟩)
    have hcp := f.lt (lotN_mem hcl).1 (lotN_mem hp1).1 hp3 fun z => hp2 (lotN_inj f.nd hcl hp1 z).symm
    omega
  unfold parN
  rw [ep, hpi]
theorem headN_bd {js : List Nat} {n : Nat} (h : ∀ j ∈ js, j < n) : headN js ≤ n := by
  cases js with
  | nil => exact Nat.zero_le _
  | cons j l => exact h j List.mem_cons_self
def seatsN (ls : List (List Int)) (many : Nat) : List Int := (List.range many).map fun v => Int.ofNat (seatN ls (Int.ofNat v))
theorem norm_seats {many : Nat} {ls : List (List Int)} (f : Fam many ls) (h1 : 1 ≤ many) (h2 : many ≤ 12) {ts : List (Int × Int)} (h : NormT ls ts) : SeatsOk ts (seatsN ls many) := by
  refine ⟨by unfold seatsN; rw [List.length_map, List.length_range]; exact ⟨h1, h2⟩, fun s hs => ?_, fun p p0 p1 hp => ?_⟩
  · obtain ⟨v, hv, rfl⟩ := List.mem_map.mp hs
    have z : seatN ls (Int.ofNat v) ≤ ls.length := headN_bd fun j hj => (ownN_mem.mp (List.mem_filter.mp hj).1).1
    rw [h.len]
    exact ⟨Int.natCast_nonneg _, by show ((seatN ls (Int.ofNat v) : Nat) : Int) ≤ _; omega⟩
  · rw [h.len] at p1
    by_cases hz : p = 0
    · exfalso
      refine hp (List.mem_map.mpr ⟨0, List.mem_range.mpr (by omega), ?_⟩)
      have e : ownN ls (Int.ofNat 0) = [] := by
        unfold ownN
        rw [List.filter_eq_nil_iff]
        intro i hi hd
        have hv := of_decide_eq_true hd
        have := (f.el _ (lotN_mem (List.mem_range.mp hi)).1).2 _ hv
        have e0 : (Int.ofNat 0) = (0 : Int) := rfl
        omega
      unfold seatN
      rw [e, hz]
      rfl
    · obtain ⟨i, rfl⟩ : ∃ i : Nat, p = ((i + 1 : Nat) : Int) := ⟨p.toNat - 1, by omega⟩
      have hi : i < ls.length := by omega
      have ns : ∀ v ∈ lotN ls i, seatN ls v ≠ i + 1 := fun v hv z => by
        have hb := (f.el _ (lotN_mem hi).1).2 v hv
        refine hp (List.mem_map.mpr ⟨v.toNat, List.mem_range.mpr (by omega), ?_⟩)
        rw [show Int.ofNat v.toNat = v from Int.toNat_of_nonneg (by omega), z]
        rfl
      have hne := f.ne _ (lotN_mem hi).1
      obtain ⟨v0, hv0⟩ : ∃ v, v ∈ lotN ls i := by
        cases e : lotN ls i with
        | nil => exact absurd e hne
        | cons a l => exact ⟨a, List.mem_cons_self⟩
      obtain ⟨c0, k1, k2, k3, k4, k5, k6⟩ := child_of f hi hv0 (ns v0 hv0)
      obtain ⟨w, hw, hwn⟩ : ∃ w, w ∈ lotN ls i ∧ w ∉ lotN ls c0 := by
        refine Classical.byContradiction fun hn => ?_
        have hall : ∀ w ∈ lotN ls i, w ∈ lotN ls c0 := fun w hw => Classical.byContradiction fun hx => hn ⟨w, hw, hx⟩
        have := nlenT ((f.el _ (lotN_mem hi).1).1.imp fun h => by omega) hall
        omega
      obtain ⟨c1, g1, g2, g3, g4, g5, g6⟩ := child_of f hi hw (ns w hw)
      have c01 : c0 ≠ c1 := fun z => hwn (by rw [z]; exact g3)
      have t0 : tieN ls i ∈ ts.filter (atB ((i + 1 : Nat) : Int)) := List.mem_filter.mpr ⟨(h.mem _).mpr ⟨i, hi, rfl⟩, decide_eq_true (by
        show ((min (parN ls i) (i + 1) : Nat) : Int) = _ ∨ ((max (parN ls i) (i + 1) : Nat) : Int) = _
        omega)⟩
      have tc : ∀ c, c < ls.length → parN ls c = i + 1 → tieN ls c ∈ ts.filter (atB ((i + 1 : Nat) : Int)) := fun c hc e => List.mem_filter.mpr ⟨(h.mem _).mpr ⟨c, hc, rfl⟩, decide_eq_true (by
        show ((min (parN ls c) (c + 1) : Nat) : Int) = _ ∨ ((max (parN ls c) (c + 1) : Nat) : Int) = _
        omega)⟩
      have z := nlenT (l := [tieN ls i, tieN ls c0, tieN ls c1]) (m := ts.filter (atB ((i + 1 : Nat) : Int))) ?_ fun x hx => ?_
      · exact z
      · simp only [List.nodup_cons, List.mem_cons, List.not_mem_nil, or_false, not_or, not_false_eq_true, List.nodup_nil, and_true]
        exact ⟨⟨fun e => k2 (tieN_inj f hi k1 e).symm, fun e => g2 (tieN_inj f hi g1 e).symm⟩, fun e => c01 (tieN_inj f k1 g1 e)⟩
      · simp only [List.mem_cons, List.not_mem_nil, or_false] at hx
        rcases hx with rfl | rfl | rfl
        · exact t0
        · exact tc c0 k1 k6
        · exact tc c1 g1 g6
/-! partings judged -/
/-- not long, nor any part of it -/
def short2 : D → Bool
  | .tup xs => decide (xs.length ≤ 50) && xs.all shortD
  | .lst xs => decide (xs.length ≤ 50)
  | _ => true
def noX (ls : List (List Int)) : Bool := (pairsL ls).all fun q => !crossB q.1 q.2
def partsB (m : Int) : D → Bool
  | .tup xs => xs.all (lotB2 1 (m - 1)) && (risL (xs.map intsD) && noX (xs.map intsD))
  | _ => false
theorem pairsL_mem {α : Type} : ∀ {ls : List α} {x y : α}, (x, y) ∈ pairsL ls ↔ ∃ a b : Nat, a < b ∧ ls[a]? = some x ∧ ls[b]? = some y
  | [], x, y => by simp [pairsL]
  | z :: ls, x, y => by
    show (x, y) ∈ ls.map (fun w => (z, w)) ++ pairsL ls ↔ _
    rw [List.mem_append, List.mem_map, pairsL_mem (ls := ls)]
    constructor
    · rintro (⟨w, hw, e⟩ | ⟨a, b, hab, hx, hy⟩)
      · cases e
        obtain ⟨b, hb⟩ := List.mem_iff_getElem?.mp hw
        exact ⟨0, b + 1, by omega, rfl, by simpa using hb⟩
      · exact ⟨a + 1, b + 1, by omega, by simpa using hx, by simpa using hy⟩
    · rintro ⟨a, b, hab, hx, hy⟩
      cases b with
      | zero => omega
      | succ b =>
        have hy' : ls[b]? = some y := by simpa using hy
        cases a with
        | zero =>
          have hx' : z = x := by simpa using hx
          exact .inl ⟨y, List.mem_of_getElem? hy', by rw [hx']⟩
        | succ a => exact .inr ⟨a, b, by omega, by simpa using hx, hy'⟩
theorem crossB_sym {xs ys : List Int} (hx : xs.Nodup) (hy : ys.Nodup) : crossB xs ys = crossB ys xs := by
  have h : crossB xs ys = true ↔ crossB ys xs = true := by
    rw [cross_iff hx hy, cross_iff hy hx]
    constructor
    · rintro ⟨⟨v, a, b⟩, c, d⟩
      exact ⟨⟨v, b, a⟩, d, c⟩
    · rintro ⟨⟨v, a, b⟩, c, d⟩
      exact ⟨⟨v, b, a⟩, d, c⟩
  cases e : crossB xs ys with
  | true => exact (h.mp e).symm
  | false =>
    cases e2 : crossB ys xs with
    | true => rw [h.mpr e2] at e; cases e
    | false => rfl
theorem noX_of {ls : List (List Int)} (hn : ∀ l ∈ ls, l.Nodup) (h : ∀ (a b : Nat) (x y : List Int), a < b → ls[a]? = some x → ls[b]? = some y → crossB y x = false) : noX ls = true := by
  refine List.all_eq_true.mpr fun q hq => ?_
  obtain ⟨x, y⟩ := q
  obtain ⟨a, b, hab, hx, hy⟩ := pairsL_mem.mp hq
  show (!crossB x y) = true
  rw [crossB_sym (hn x (List.mem_of_getElem? hx)) (hn y (List.mem_of_getElem? hy)), h a b x y hab hx hy]
  rfl
theorem noX_not {ls : List (List Int)} (hn : ∀ l ∈ ls, l.Nodup) {a b : Nat} {x y : List Int} (hab : a < b) (hx : ls[a]? = some x) (hy : ls[b]? = some y) (h : crossB y x = true) : noX ls = false := by
  rw [Bool.eq_false_iff]
  intro z
  have z2 := List.all_eq_true.mp z (x, y) (pairsL_mem.mpr ⟨a, b, hab, hx, hy⟩)
  have z3 : (!crossB x y) = true := z2
  rw [crossB_sym (hn x (List.mem_of_getElem? hx)) (hn y (List.mem_of_getElem? hy)), h] at z3
  cases z3
theorem lots_of {m : Int} : ∀ {xs : List D}, xs.all (lotB2 1 m) = true → (∀ x ∈ xs, shortD x = true) → ∃ ls : List (List Int), xs = ls.map tupI ∧ (∀ l ∈ ls, l.length ≤ 100) ∧ ∀ l ∈ ls, l.Nodup
  | [], _, _ => ⟨[], rfl, (fun l hl => nomatch hl), fun l hl => nomatch hl⟩
  | x :: xs, h, hs => by
    simp only [List.all_cons, Bool.and_eq_true] at h
    obtain ⟨ls, e, g1, g2⟩ := lots_of h.2 fun y hy => hs y (List.mem_cons_of_mem _ hy)
    have hx := hs x List.mem_cons_self
    cases x with
    | tup ys =>
      have hb := h.1
      simp only [lotB2, Bool.and_eq_true] at hb
      refine ⟨intsOf ys :: ls, ?_, fun l hl => ?_, fun l hl => ?_⟩
      · rw [List.map_cons, ← e]
        show D.tup ys :: xs = D.tup ((intsOf ys).map D.int) :: xs
        rw [← ints_eq hb.1.2]
      · rcases List.mem_cons.mp hl with rfl | hl
        · rw [intsOf_len]
          simpa [shortD] using hx
        · exact g1 l hl
      · rcases List.mem_cons.mp hl with rfl | hl
        · exact ris_nodup hb.2
        · exact g2 l hl
    | _ => simp [lotB2] at h
def crossF (y : List Int) (x : D) : D := .bl (crossB y (intsD x))
theorem anyD_map {f : D → Bool} {xs : List D} {k : D → Prop} (h : k (.bl (xs.any f))) : anyD' (.lst (xs.map fun x => .bl (f x))) k := ⟨_, blsD_map, by
  rw [List.any_map]
  exact h⟩
def parD (ls : List (List Int)) (i : Nat) : D := .tup [.int ((parN ls i : Nat) : Int), .int ((i : Int) + 1)]
def natD (k : Nat) : D := .int ((k : Nat) : Int)
def abvB (ls : List (List Int)) (i j : Nat) : Bool := decide (j ≠ i) && subB (lotN ls i) (lotN ls j)
theorem range_filter_no {p : Nat → Bool} {j : Nat} (h : p j = false) : (List.range (j + 1)).filter p = (List.range j).filter p := by
  rw [List.range_succ, List.filter_append, List.filter_cons, h]
  simp
theorem range_filter_yes {p : Nat → Bool} {j : Nat} (h : p j = true) : (List.range (j + 1)).filter p = (List.range j).filter p ++ [j] := by
  rw [List.range_succ, List.filter_append, List.filter_cons, h]
  rfl
def notInB (ys : List Int) : D → Bool
  | .int v => !decide (v ∈ ys)
  | _ => true
theorem any_notIn {ys : List Int} {v : Int} : (!ys.any fun x => x == v) = !decide (v ∈ ys) := by
  congr 1
  by_cases h : v ∈ ys
  · rw [decide_eq_true h, List.any_eq_true]
    exact ⟨v, h, by simp⟩
  · rw [decide_eq_false h, List.any_eq_false]
    intro x hx he
    have : x = v := by simpa using he
    exact h (by rw [← this]; exact hx)
theorem notIn_all {xs ys : List Int} : ((xs.map D.int).all fun x => !notInB ys x) = subB xs ys := by
  unfold subB
  rw [List.all_map]
  refine congrArg (fun f => xs.all f) (funext fun v => ?_)
  show (!!decide (v ∈ ys)) = _
  rw [Bool.not_not]
def leastB (ls : List (List Int)) (js : List Nat) (j : Nat) : Bool := js.all fun k => !decide ((lotN ls k).length < (lotN ls j).length)
def leastF (ls : List (List Int)) (js : List Nat) : D → Option D
  | .int j => match leastB ls js j.toNat with
    | true => some (.int j)
    | false => none
  | _ => none
theorem leastF_map {ls : List (List Int)} {ab : List Nat} : ∀ {js : List Nat}, (js.map natD).filterMap (leastF ls ab) = (js.filter (leastB ls ab)).map natD
  | [] => rfl
  | j :: js => by
    have ih := leastF_map (ls := ls) (ab := ab) (js := js)
    rw [List.map_cons, List.filterMap_cons, List.filter_cons]
    cases h : leastB ls ab j with
    | true =>
      have e : leastF ls ab (natD j) = some (natD j) := by
        show (match leastB ls ab j with | true => some (natD j) | false => none) = _
        rw [h]
      rw [e, ih]
      rfl
    | false =>
      have e : leastF ls ab (natD j) = none := by
        show (match leastB ls ab j with | true => some (natD j) | false => none) = _
        rw [h]
      rw [e, ih]
      rfl
def shortB (ls : List (List Int)) (j : Nat) : D → Bool
  | .int k => decide ((lotN ls k.toNat).length < (lotN ls j).length)
  | _ => true
theorem short_all {ls : List (List Int)} {j : Nat} {ab : List Nat} : ((ab.map natD).all fun x => !shortB ls j x) = leastB ls ab j := by
  unfold leastB
  rw [List.all_map]
  rfl
def seatD (ls : List (List Int)) (v : Nat) : D := .int ((seatN ls (Int.ofNat v) : Nat) : Int)
def ownF (v : Int) : D → Option D
  | .tup [.int i, .tup xs] => match decide (v ∈ intsOf xs) with
    | true => some (.int i)
    | false => none
  | _ => none
theorem any_in {ys : List Int} {v : Int} : (ys.any fun x => x == v) = decide (v ∈ ys) := by
  have z := any_notIn (ys := ys) (v := v)
  cases e : (ys.any fun x => x == v) <;> cases e2 : decide (v ∈ ys) <;> simp_all
theorem enum_lots {ls : List (List Int)} {x : D} (h : x ∈ enumD 0 (ls.map tupI)) : ∃ j : Nat, j < ls.length ∧ x = .tup [.int (j : Nat), .tup ((lotN ls j).map D.int)] := by
  obtain ⟨i, e⟩ := List.mem_iff_getElem?.mp h
  obtain ⟨hi, _⟩ := List.getElem?_eq_some_iff.mp e
  rw [enumD_len, List.length_map] at hi
  refine ⟨i, hi, ?_⟩
  rw [enumD_get, List.getElem?_map, (lotN_mem hi).2, Option.map_some, Option.map_some, Option.some.injEq, Nat.zero_add] at e
  exact e.symm
theorem ownF_gen {v : Int} : ∀ (ls : List (List Int)) (k : Nat), (enumD k (ls.map tupI)).filterMap (ownF v) = ((List.range ls.length).filter fun i => decide (v ∈ lotN ls i)).map fun i => natD (k + i)
  | [], _ => rfl
  | l :: ls, k => by
    have ih := ownF_gen (v := v) ls (k + 1)
    show (D.tup [.int (k : Nat), tupI l] :: enumD (k + 1) (ls.map tupI)).filterMap (ownF v) = _
    rw [List.filterMap_cons, List.length_cons, List.range_succ_eq_map, List.filter_cons]
    have hf : ((List.range ls.length).map Nat.succ).filter (fun i => decide (v ∈ lotN (l :: ls) i)) = ((List.range ls.length).filter fun i => decide (v ∈ lotN ls i)).map Nat.succ := by
      rw [List.filter_map]
      rfl
    rw [hf]
    have hm : (((List.range ls.length).filter fun i => decide (v ∈ lotN ls i)).map Nat.succ).map (fun i => natD (k + i)) = ((List.range ls.length).filter fun i => decide (v ∈ lotN ls i)).map fun i => natD (k + 1 + i) := by
      rw [List.map_map]
      refine List.map_congr_left fun i _ => ?_
      show natD (k + (i + 1)) = natD (k + 1 + i)
      rw [show k + (i + 1) = k + 1 + i by omega]
    have h0 : lotN (l :: ls) 0 = l := rfl
    have e0 : ownF v (D.tup [.int (k : Nat), tupI l]) = match decide (v ∈ l) with | true => some (natD k) | false => none := by
      show (match decide (v ∈ intsOf (l.map D.int)) with | true => some (natD k) | false => none) = _
      rw [intsOf_map]
    rw [e0, h0]
    cases e : decide (v ∈ l) with
    | true =>
      rw [if_pos rfl, List.map_cons, hm, ← ih]
      rfl
    | false =>
      rw [if_neg (by simp), hm, ← ih]
theorem ownF_map {v : Int} {ls : List (List Int)} : (enumD 0 (ls.map tupI)).filterMap (ownF v) = (ownN ls v).map natD := by
  rw [ownF_gen]
  unfold ownN
  refine List.map_congr_left fun i _ => ?_
  rw [Nat.zero_add]
def mmF : D → D
  | .tup [.int i, .int j] => .tup [.int (min i j), .int (max i j)]
  | _ => .non
def tieL (ls : List (List Int)) (i : Nat) : List Int := [(tieN ls i).1, (tieN ls i).2]
def rawT (ls : List (List Int)) : List (List Int) := (List.range ls.length).map (tieL ls)
theorem mmF_at {ls : List (List Int)} {i : Nat} : mmF (parD ls i) = tupI (tieL ls i) := by
  show D.tup [.int (min ((parN ls i : Nat) : Int) ((i : Int) + 1)), .int (max ((parN ls i : Nat) : Int) ((i : Int) + 1))] = D.tup [.int (((min (parN ls i) (i + 1) : Nat) : Int)), .int (((max (parN ls i) (i + 1) : Nat) : Int))]
  rw [show min ((parN ls i : Nat) : Int) ((i : Int) + 1) = ((min (parN ls i) (i + 1) : Nat) : Int) by omega, show max ((parN ls i : Nat) : Int) ((i : Int) + 1) = ((max (parN ls i) (i + 1) : Nat) : Int) by omega]
def sortT (ls : List (List Int)) : List (Int × Int) := (sortL (rawT ls)).map fun l => (l.getD 0 0, l.getD 1 0)
theorem risL_of : ∀ {nss : List (List Int)}, nss.Pairwise (· < ·) → risL nss = true
  | [], _ => rfl
  | [_], _ => rfl
  | a :: b :: l, h => by
    obtain ⟨h1, h2⟩ := List.pairwise_cons.mp h
    have z := risL_of h2
    have e : risL (a :: b :: l) = (SCo.ltI a b && risL (b :: l)) := rfl
    rw [e, z, Bool.and_true]
    exact decide_eq_true (h1 b List.mem_cons_self)
theorem sortL_lt {nss : List (List Int)} (h : nss.Nodup) : (sortL nss).Pairwise (· < ·) := by
  have z := List.pairwise_mergeSort (le := fun a b : List Int => !SCo.ltI b a) (fun a b c h1 h2 => ?_) (fun a b => ?_) nss
  · have hn : (sortL nss).Nodup := (sortL_perm nss).nodup_iff.mpr h
    refine (z.and hn).imp fun hab => ?_
    obtain ⟨h1, h2⟩ := hab
    simp only [SCo.ltI, Bool.not_eq_true', decide_eq_false_iff_not] at h1
    refine Classical.byContradiction fun hn => h2 ?_
    exact List.le_antisymm h1 hn
  · simp only [SCo.ltI, Bool.not_eq_true', decide_eq_false_iff_not] at h1 h2 ⊢
    exact fun h3 => h2 (Std.lt_of_lt_of_le h3 h1)
  · simp only [SCo.ltI, Bool.or_eq_true, Bool.not_eq_true', decide_eq_false_iff_not]
    exact List.le_total a b
theorem rawT_nodup {many : Nat} {ls : List (List Int)} (f : Fam many ls) : (rawT ls).Nodup := by
  unfold rawT
  refine List.pairwise_map.mpr ?_
  rw [List.pairwise_iff_getElem]
  intro i j hi hj hij e
  rw [List.length_range] at hi hj
  rw [List.getElem_range, List.getElem_range] at e
  unfold tieL at e
  simp only [List.cons.injEq, and_true] at e
  have := tieN_inj f hi hj (Prod.ext e.1 e.2)
  omega
theorem norm_sort {many : Nat} {ls : List (List Int)} (f : Fam many ls) : NormT ls (sortT ls) := by
  have hm : ∀ l, l ∈ sortL (rawT ls) ↔ ∃ i, i < ls.length ∧ l = tieL ls i := fun l => by
    rw [(sortL_perm _).mem_iff]
    unfold rawT
    rw [List.mem_map]
    constructor
    · rintro ⟨i, hi, e⟩
      exact ⟨i, List.mem_range.mp hi, e.symm⟩
    · rintro ⟨i, hi, e⟩
      exact ⟨i, List.mem_range.mpr hi, e.symm⟩
  refine ⟨fun t => ?_, ?_, ?_⟩
  · unfold sortT
    rw [List.mem_map]
    constructor
    · rintro ⟨l, hl, rfl⟩
      obtain ⟨i, hi, rfl⟩ := (hm l).mp hl
      exact ⟨i, hi, rfl⟩
    · rintro ⟨i, hi, rfl⟩
      exact ⟨_, (hm _).mpr ⟨i, hi, rfl⟩, rfl⟩
  · unfold sortT
    rw [List.length_map, (sortL_perm _).length_eq]
    unfold rawT
    rw [List.length_map, List.length_range]
  · have e : (sortT ls).map (fun t => [t.1, t.2]) = sortL (rawT ls) := by
      unfold sortT
      rw [List.map_map]
      refine (List.map_congr_left fun l hl => ?_).trans (List.map_id _)
      obtain ⟨i, _, rfl⟩ := (hm l).mp hl
      rfl
    rw [e]
    exact risL_of (sortL_lt (rawT_nodup f))
theorem rangeA_len {a : Int} {k : Nat} : (rangeD a k).length = k := by
  simp [rangeD]
/-! drawn families -/
def Dj (a b : List Int) : Prop := ∀ v, v ∈ a → v ∉ b
theorem Dj.symm {a b : List Int} (h : Dj a b) : Dj b a := fun v hb ha => h v ha hb
theorem fam_len {many : Nat} {ls : List (List Int)} (f : Fam many ls) {l : List Int} (hl : l ∈ ls) : l.length ≤ many := by
  obtain ⟨i, hi⟩ := List.mem_iff_getElem?.mp hl
  have hi' := (List.getElem?_eq_some_iff.mp hi).1
  have e := (lotN_mem hi').2
  rw [hi] at e
  have h3 := lotN_short f hi'
  rw [← Option.some.inj e] at h3
  exact h3
theorem fam_zoo {many : Nat} {ls : List (List Int)} (f : Fam many ls) : nx (.tup (ls.map tupI)) = true ∧ (many ≤ 12 → short2 (.tup (ls.map tupI)) = true) := by
  refine ⟨nxs_of fun d hd => ?_, fun hm => ?_⟩
  · obtain ⟨l, _, rfl⟩ := List.mem_map.mp hd
    exact nxs_ints
  · simp only [short2, Bool.and_eq_true, decide_eq_true_eq, List.all_eq_true, List.length_map]
    have := f.ln
    refine ⟨by omega, fun d hd => ?_⟩
    obtain ⟨l, hl, rfl⟩ := List.mem_map.mp hd
    have := fam_len f hl
    simp only [tupI, shortD, List.length_map, decide_eq_true_eq]
    omega
theorem risB_of : ∀ {ns : List Int}, ns.Pairwise (· < ·) → risB ns = true
  | [], _ => rfl
  | [_], _ => rfl
  | a :: b :: l, h => by
    rw [List.pairwise_cons] at h
    have h1 := h.1 b List.mem_cons_self
    have h2 := risB_of h.2
    simp only [risB, Bool.and_eq_true, decide_eq_true_eq]
    exact ⟨h1, h2⟩
theorem fam_parts {many : Nat} {ls : List (List Int)} (f : Fam many ls) (hr : risL ls = true) : partsB (many : Int) (.tup (ls.map tupI)) = true := by
  have el : (ls.map tupI).map intsD = ls := by
    rw [List.map_map]
    exact (List.map_congr_left fun r _ => intsD_tup).trans (List.map_id ls)
  have hnd : ∀ l ∈ ls, l.Nodup := fun l hl => (f.el l hl).1.imp fun h => by omega
  simp only [partsB, Bool.and_eq_true]
  rw [el]
  refine ⟨List.all_eq_true.mpr fun x hx => ?_, hr, noX_of hnd fun a b x y hab hx hy => ?_⟩
  · obtain ⟨l, hl, rfl⟩ := List.mem_map.mp hx
    obtain ⟨h1, h2⟩ := f.el l hl
    simp only [tupI, lotB2, Bool.and_eq_true, intsOf_map]
    refine ⟨⟨?_, List.all_eq_true.mpr fun y hy => ?_⟩, risB_of h1⟩
    · have := f.ne l hl
      cases l with
      | nil => exact absurd rfl this
      | cons a b => rfl
    · obtain ⟨v, hv, rfl⟩ := List.mem_map.mp hy
      have := h2 v hv
      simp only [betw, Bool.and_eq_true, decide_eq_true_eq]
      omega
  · have mx := List.mem_of_getElem? hx
    have my := List.mem_of_getElem? hy
    rw [Bool.eq_false_iff]
    intro z
    obtain ⟨⟨v, a1, a2⟩, ⟨w, b1, b2⟩, ⟨u, c1, c2⟩⟩ := (cross_iff (hnd y my) (hnd x mx)).mp z
    rcases f.lam y my x mx with h | h | h
    · exact h v a1 a2
    · exact b2 (h w b1)
    · exact c2 (h u c1)
/-! the one way between two places of a tree -/
def Adj (ts : List (Int × Int)) (a b : Int) : Prop := (a, b) ∈ ts ∨ (b, a) ∈ ts
theorem Adj.symm {ts : List (Int × Int)} {a b : Int} (h : Adj ts a b) : Adj ts b a := Or.symm h
theorem risL_pair : ∀ {nss : List (List Int)}, risL nss = true → nss.Pairwise (· < ·)
  | [], _ => List.Pairwise.nil
  | [_], _ => List.pairwise_singleton _ _
  | a :: b :: l, h => by
    have e : risL (a :: b :: l) = (SCo.ltI a b && risL (b :: l)) := rfl
    rw [e, Bool.and_eq_true] at h
    have h1 : a < b := of_decide_eq_true h.1
    have ih := risL_pair h.2
    refine List.pairwise_cons.mpr ⟨fun x hx => ?_, ih⟩
    rcases List.mem_cons.mp hx with rfl | hx
    · exact h1
    · exact List.lt_trans h1 ((List.pairwise_cons.mp ih).1 x hx)
/-! partings of a tree -/
def aroundN (ls : List (List Int)) (v : Int) (size : Nat) : List Nat := (List.range ls.length).filter fun j => decide (v ∈ lotN ls j) && decide (size < (lotN ls j).length)
theorem asc_ext {a b : List Int} (ha : a.Pairwise (· < ·)) (hb : b.Pairwise (· < ·)) (h : ∀ v, v ∈ a ↔ v ∈ b) : a = b :=
  sub_all ha hb (fun v hv => (h v).mp hv) (nlenT (hb.imp fun h => by omega) fun v hv => (h v).mpr hv)
theorem lot_asc {many : Nat} {ls : List (List Int)} (f : Fam many ls) {i : Nat} (hi : i < ls.length) : (lotN ls i).Pairwise (· < ·) := (f.el _ (lotN_mem hi).1).1
/-- of two lots that have a valley in common the one that is no longer is in the other -/
theorem nest_le {many : Nat} {ls : List (List Int)} (f : Fam many ls) {k i : Nat} (hk : k < ls.length) (hi : i < ls.length) {v : Int} (vk : v ∈ lotN ls k) (vi : v ∈ lotN ls i) (hl : (lotN ls k).length ≤ (lotN ls i).length) : ∀ w ∈ lotN ls k, w ∈ lotN ls i := by
  rcases f.lam _ (lotN_mem hk).1 _ (lotN_mem hi).1 with h | h | h
  · exact absurd vi (h v vk)
  · exact h
  · have e := sub_all (lot_asc f hi) (lot_asc f hk) h hl
    rw [e]
    exact fun _ h => h
theorem perm_of_mem {α : Type} [DecidableEq α] {a b : List α} (ha : a.Nodup) (hb : b.Nodup) (h : ∀ x, x ∈ a ↔ x ∈ b) : a.Perm b := (List.perm_ext_iff_of_nodup ha hb).mpr h
/-- the least of pairs -/
def prN (ls : List (List Int)) (j : Nat) : List Int := [((lotN ls j).length : Int), ((j : Int) + 1)]
theorem prN_lt {ls : List (List Int)} {a y : Nat} : (SCo.ltI (prN ls y) (prN ls a) = true → (lotN ls y).length ≤ (lotN ls a).length) ∧ (SCo.ltI (prN ls y) (prN ls a) = false → (lotN ls a).length ≤ (lotN ls y).length) := by
  unfold SCo.ltI prN
  rw [decide_eq_true_eq, decide_eq_false_iff_not, List.cons_lt_cons_iff]
  constructor
  · rintro (h | ⟨h, _⟩) <;> omega
  · intro h
    refine Classical.byContradiction fun hn => h (.inl ?_)
    omega
theorem leastL_pr {ls : List (List Int)} : ∀ (js : List Nat) (a : Nat), ∃ b, b ∈ a :: js ∧ SCo.leastL (prN ls a) (js.map (prN ls)) = prN ls b ∧ ∀ k ∈ a :: js, (lotN ls b).length ≤ (lotN ls k).length
  | [], a => ⟨a, List.mem_cons_self, rfl, fun k hk => by rw [List.mem_singleton.mp hk]; exact Nat.le_refl _⟩
  | y :: js, a => by
    have z := prN_lt (ls := ls) (a := a) (y := y)
    show ∃ b, b ∈ a :: y :: js ∧ SCo.leastL (if SCo.ltI (prN ls y) (prN ls a) then prN ls y else prN ls a) (js.map (prN ls)) = prN ls b ∧ _
    cases h : SCo.ltI (prN ls y) (prN ls a) with
    | true =>
      obtain ⟨b, hb, e, hl⟩ := leastL_pr js y
      refine ⟨b, List.mem_cons_of_mem _ hb, by simpa using e, fun k hk => ?_⟩
      rcases List.mem_cons.mp hk with rfl | hk
      · exact Nat.le_trans (hl y List.mem_cons_self) (z.1 h)
      · exact hl k hk
    | false =>
      obtain ⟨b, hb, e, hl⟩ := leastL_pr js a
      refine ⟨b, ?_, by simpa using e, fun k hk => ?_⟩
      · rcases List.mem_cons.mp hb with rfl | hb
        · exact List.mem_cons_self
        · exact List.mem_cons_of_mem _ (List.mem_cons_of_mem _ hb)
      · rcases List.mem_cons.mp hk with rfl | hk
        · exact hl _ List.mem_cons_self
        · rcases List.mem_cons.mp hk with rfl | hk
          · exact Nat.le_trans (hl a List.mem_cons_self) (z.2 h)
          · exact hl k (List.mem_cons_of_mem _ hk)
theorem aroundN_mem {ls : List (List Int)} {v : Int} {size j : Nat} : j ∈ aroundN ls v size ↔ j < ls.length ∧ v ∈ lotN ls j ∧ size < (lotN ls j).length := by
  unfold aroundN
  rw [List.mem_filter, List.mem_range, Bool.and_eq_true, decide_eq_true_eq, decide_eq_true_eq]
theorem min_around {many : Nat} {ls : List (List Int)} (f : Fam many ls) {v : Int} {size : Nat} : ∃ m : Int, minDef (.tup [.int 0, .int 0]) ((aroundN ls v size).map (prN ls)) = .tup [.int m, .int ((headN (leastN ls (aroundN ls v size)) : Nat) : Int)] := by
  cases h : aroundN ls v size with
  | nil => exact ⟨0, rfl⟩
  | cons a js =>
    obtain ⟨b, hb, e, hl⟩ := leastL_pr (ls := ls) js a
    obtain ⟨k, ek, hk, lk⟩ := headN_least (ls := ls) (js := a :: js) (fun z => nomatch z)
    have kb : k = b := by
      rw [← h] at hb hk
      obtain ⟨k1, k2, _⟩ := aroundN_mem.mp hk
      obtain ⟨b1, b2, _⟩ := aroundN_mem.mp hb
      rw [h] at hb hk
      have l1 := lk b hb
      have l2 := hl k hk
      exact lotN_inj f.nd k1 b1 (asc_ext (lot_asc f k1) (lot_asc f b1) fun w => ⟨nest_le f k1 b1 k2 b2 l1 w, nest_le f b1 k1 b2 k2 l2 w⟩)
    refine ⟨((lotN ls b).length : Int), ?_⟩
    show tupI (SCo.leastL (prN ls a) (js.map (prN ls))) = _
    rw [e, ek, kb]
    rfl

theorem sort_is {a ls : List (List Int)} (hp : a.Perm ls) (hs : ls.Pairwise (· < ·)) : sortL a = ls := by
  have nd0 : ls.Nodup := List.Pairwise.imp (fun {a b} (h : a < b) (e : a = b) => by subst e; exact List.lt_irrefl _ h) hs
  have nd : a.Nodup := hp.nodup_iff.mpr nd0
  exact List.Perm.eq_of_pairwise (le := (· < ·)) (fun x y _ _ h1 h2 => absurd (List.lt_trans h1 h2) (List.lt_irrefl _)) (sortL_lt nd) hs ((sortL_perm a).trans hp)
def arF (v : Int) (size : Nat) : D → Option D
  | .tup [.int i, .tup xs] => if (decide (v ∈ intsOf xs) && decide (size < xs.length)) = true then some (.tup [.int (xs.length : Int), .int (i + 1)]) else none
  | _ => none
theorem arF_at {v : Int} {size j : Nat} {l : List Int} : arF v size (.tup [.int (j : Nat), .tup (l.map D.int)]) = if (decide (v ∈ l) && decide (size < l.length)) = true then some (.tup [.int (l.length : Int), .int ((j : Int) + 1)]) else none := by
  show (if (decide (v ∈ intsOf (l.map D.int)) && decide (size < (l.map D.int).length)) = true then some (D.tup [.int ((l.map D.int).length : Int), .int ((j : Int) + 1)]) else none) = _
  rw [intsOf_map, List.length_map]
theorem filterMap_if {α β : Type} {p : α → Bool} {q : α → β} : ∀ l : List α, l.filterMap (fun a => if p a = true then some (q a) else none) = (l.filter p).map q
  | [] => rfl
  | a :: l => by
    rw [List.filterMap_cons, List.filter_cons]
    cases h : p a with
    | true => rw [if_pos rfl, if_pos rfl, List.map_cons, filterMap_if l]
    | false => rw [if_neg (by simp), if_neg (by simp), filterMap_if l]
theorem enum_range {ls : List (List Int)} : enumD 0 (ls.map tupI) = (List.range ls.length).map fun j => .tup [.int (j : Nat), .tup ((lotN ls j).map D.int)] := by
  apply List.ext_getElem?
  intro j
  rw [enumD_get, List.getElem?_map, List.getElem?_map]
  by_cases h : j < ls.length
  · rw [(lotN_mem h).2, List.getElem?_range h, Option.map_some, Option.map_some, Option.map_some, Nat.zero_add]
    rfl
  · rw [List.getElem?_eq_none (by omega), List.getElem?_eq_none (by rw [List.length_range]; omega)]
    rfl
theorem arF_map {v : Int} {size : Nat} {ls : List (List Int)} : (enumD 0 (ls.map tupI)).filterMap (arF v size) = ((aroundN ls v size).map (prN ls)).map tupI := by
  rw [enum_range, List.filterMap_map]
  have e : (arF v size ∘ fun j : Nat => D.tup [.int (j : Nat), .tup ((lotN ls j).map D.int)]) = fun j => if (decide (v ∈ lotN ls j) && decide (size < (lotN ls j).length)) = true then some (tupI (prN ls j)) else none := by
    funext j
    exact arF_at
  rw [e, filterMap_if, List.map_map]
  rfl
theorem around_par {many : Nat} {ls : List (List Int)} (f : Fam many ls) {i : Nat} (hi : i < ls.length) {v : Int} (hv : v ∈ lotN ls i) : headN (leastN ls (aroundN ls v (lotN ls i).length)) = parN ls i := by
  unfold parN
  have e : aroundN ls v (lotN ls i).length = aboveN ls i := by
    unfold aroundN aboveN
    refine List.filter_congr fun j hj => ?_
    have hj := List.mem_range.mp hj
    rw [Bool.eq_iff_iff, Bool.and_eq_true, Bool.and_eq_true, decide_eq_true_eq, decide_eq_true_eq, decide_eq_true_eq, subB_iff]
    constructor
    · rintro ⟨h1, h2⟩
      exact ⟨fun z => by rw [z] at h2; omega, nest_le f hi hj hv h1 (by omega)⟩
    · rintro ⟨h1, h2⟩
      exact ⟨h2 v hv, f.lt (lotN_mem hi).1 (lotN_mem hj).1 h2 fun z => h1 (lotN_inj f.nd hj hi z.symm)⟩
  rw [e]
theorem around_own {many : Nat} {ls : List (List Int)} (f : Fam many ls) {v : Int} : headN (leastN ls (aroundN ls v 0)) = seatN ls v := by
  unfold seatN
  have e : aroundN ls v 0 = ownN ls v := by
    unfold aroundN ownN
    refine List.filter_congr fun j hj => ?_
    have hj := List.mem_range.mp hj
    rw [decide_eq_true (List.length_pos_iff.mpr (f.ne _ (lotN_mem hj).1)), Bool.and_true]
  rw [e]
theorem tie_par {ls : List (List Int)} {i : Nat} : tupI [min ((parN ls i : Nat) : Int) ((i : Int) + 1), max ((parN ls i : Nat) : Int) ((i : Int) + 1)] = tupI (tieL ls i) := by
  unfold tieL tieN
  rw [show min ((parN ls i : Nat) : Int) ((i : Int) + 1) = ((min (parN ls i) (i + 1) : Nat) : Int) by omega, show max ((parN ls i : Nat) : Int) ((i : Int) + 1) = ((max (parN ls i) (i + 1) : Nat) : Int) by omega]
def tieF (ls : List (List Int)) : D → D
  | .tup [.int j, _] => tupI (tieL ls j.toNat)
  | _ => .non
theorem tieF_map {ls : List (List Int)} : (enumD 0 (ls.map tupI)).map (tieF ls) = (rawT ls).map tupI := by
  rw [enum_range, List.map_map]
  unfold rawT
  rw [List.map_map]
  rfl
def stF (ls : List (List Int)) : D → D
  | .int v => .int ((seatN ls v : Nat) : Int)
  | _ => .non
theorem stF_map {ls : List (List Int)} {many : Nat} : (rangeD 0 ((many : Int)).toNat).map (stF ls) = (seatsN ls many).map D.int := by
  unfold rangeD seatsN
  rw [List.map_map, List.map_map, Int.toNat_natCast]
  refine List.map_congr_left fun v _ => ?_
  show D.int ((seatN ls (0 + (v : Int)) : Nat) : Int) = D.int ((seatN ls (Int.ofNat v) : Nat) : Int)
  rw [Int.zero_add]
  rfl
theorem sortT_pair {ls : List (List Int)} : (sortL (rawT ls)).map tupI = (sortT ls).map pairI := by
  unfold sortT
  rw [List.map_map]
  refine List.map_congr_left fun l hl => ?_
  obtain ⟨i, _, rfl⟩ := List.mem_map.mp ((sortL_perm _).mem_iff.mp hl)
  rfl
theorem Fam.filter {many : Nat} {ls : List (List Int)} (f : Fam many ls) (p : List Int → Bool) : Fam many (ls.filter p) :=
  ⟨fun l hl => f.ne l ((List.mem_filter.mp hl).1), f.nd.sublist List.filter_sublist, fun l hl => f.el l ((List.mem_filter.mp hl).1), fun a ha b hb => f.lam a ((List.mem_filter.mp ha).1) b ((List.mem_filter.mp hb).1), Nat.le_trans (List.length_filter_le _ _) f.ln⟩
theorem Fam.sub {many : Nat} {ls ls' : List (List Int)} (f : Fam many ls) (h : ls'.Sublist ls) : Fam many ls' :=
  ⟨fun l hl => f.ne l (h.subset hl), f.nd.sublist h, fun l hl => f.el l (h.subset hl), fun a ha b hb => f.lam a (h.subset ha) b (h.subset hb), Nat.le_trans h.length_le f.ln⟩
theorem norm_same {ls : List (List Int)} {ts us : List (Int × Int)} (h : NormT ls ts) (g : NormT ls us) : ts = us := by
  have a := risL_pair h.ris
  have b := risL_pair g.ris
  have nd : ∀ {l : List (List Int)}, l.Pairwise (· < ·) → l.Nodup := fun hp => List.Pairwise.imp (fun {a b} (h : a < b) (e : a = b) => by subst e; exact List.lt_irrefl _ h) hp
  have pm : (ts.map fun t => [t.1, t.2]).Perm (us.map fun t => [t.1, t.2]) := perm_of_mem (nd a) (nd b) fun x => by
    rw [List.mem_map, List.mem_map]
    constructor
    · rintro ⟨t, ht, rfl⟩
      exact ⟨t, (g.mem t).mpr ((h.mem t).mp ht), rfl⟩
    · rintro ⟨t, ht, rfl⟩
      exact ⟨t, (h.mem t).mpr ((g.mem t).mp ht), rfl⟩
  have e := List.Perm.eq_of_pairwise (le := (· < ·)) (fun x y _ _ h1 h2 => absurd (List.lt_trans h1 h2) (List.lt_irrefl _)) a b pm
  have z := congrArg (List.map fun l : List Int => ((l.getD 0 0, l.getD 1 0) : Int × Int)) e
  rw [List.map_map, List.map_map] at z
  have i : ((fun l : List Int => ((l.getD 0 0, l.getD 1 0) : Int × Int)) ∘ fun t : Int × Int => [t.1, t.2]) = id := rfl
  rw [i, List.map_id, List.map_id] at z
  exact z
theorem tree_repr {ts : List (Int × Int)} {seats : List Int} (t : TiesOk ts) (k : SeatsOk ts seats) : ∃ p, toP (.tup [.tup (ts.map pairI), tupI seats]) = some p ∧ okR p := by
  have tl := t.l
  have kl := k.l
  have A : ∀ d ∈ ts.map pairI, smB d = true ∧ lnB d ≤ 60 ∧ dpB d ≤ 1 := fun d hd => by
    obtain ⟨e, he, rfl⟩ := List.mem_map.mp hd
    have b := t.b e he
    refine ⟨?_, ?_, by simp [pairI, tupI, dpB, dpA]⟩
    · simp [pairI, tupI, smB, smA]
      omega
    · simp [pairI, tupI, lnB, lnA]
      omega
  have B : ∀ d ∈ seats.map D.int, smB d = true ∧ lnB d ≤ 30 ∧ dpB d ≤ 0 := fun d hd => by
    obtain ⟨e, he, rfl⟩ := List.mem_map.mp hd
    have b := k.b e he
    refine ⟨?_, ?_, Nat.le_refl _⟩
    · simp [smB]
      omega
    · simp [lnB]
      omega
  have l1 := lnA_le (M := 60) fun d hd => (A d hd).2.1
  have l2 := lnA_le (M := 30) fun d hd => (B d hd).2.1
  have d1 := dpA_le (M := 1) fun d hd => (A d hd).2.2
  have d2 := dpA_le (M := 0) fun d hd => (B d hd).2.2
  have s1 := smA_of fun d hd => (A d hd).1
  have s2 := smA_of fun d hd => (B d hd).1
  rw [List.length_map] at l1 l2
  have m1 : ts.length * (60 + 2) ≤ 21 * 62 := Nat.mul_le_mul_right _ tl
  have m2 : seats.length * (30 + 2) ≤ 12 * 32 := Nat.mul_le_mul_right _ kl.2
  obtain ⟨p, e, g1, g2, g3, g4⟩ := sm_toP (.tup [.tup (ts.map pairI), tupI seats]) (by
    show (smA (ts.map pairI) && (smA (seats.map D.int) && true)) = true
    rw [s1, s2]
    rfl)
  have eL : lnB (.tup [.tup (ts.map pairI), tupI seats]) = ((lnA (ts.map pairI) + 4) + 2 + ((lnA (seats.map D.int) + 4) + 2 + 0)) + 4 := rfl
  have eD : dpB (.tup [.tup (ts.map pairI), tupI seats]) = max (dpA (ts.map pairI) + 1) (max (dpA (seats.map D.int) + 1) 0) + 1 := rfl
  exact ⟨p, e, g1, g2, by omega, by omega⟩
/-! the far side of a tie -/
structure FarB (n : Nat) (s : Int → Bool) (F : List Int) : Prop where
  z : (0 : Int) ∈ F
  nd : F.Nodup
  el : ∀ p ∈ F, 0 ≤ p ∧ p ≤ (n : Int) ∧ s p = s 0
section
variable {ts : List (Int × Int)} {e : Int × Int} {s : Int → Bool} {F0 F : List Int}
end
/-! how many lots there can be -/
theorem FarB.len {n : Nat} {s : Int → Bool} {F : List Int} (b : FarB n s F) : F.length ≤ n + 1 := by
  have z := nlenT (m := upTo n) b.nd fun x hx => upTo_mem.mpr ⟨(b.el x hx).1, (b.el x hx).2.1⟩
  rw [upTo_len] at z
  exact z
/-! one statement at a time -/
/-! all families of lots of few valleys -/
def lotsS (ls : List (List Int)) (v : Int) : List (List Int) := ls ++ ls.map (· ++ [v])
def lotsE (m : Nat) : List (List Int) := (List.range m).foldl (fun ls (i : Nat) => lotsS ls ((i : Int) + 1)) [[]]
def okF (f : List (List Int)) (l : List Int) : Bool := f.all fun o => !crossB o l
def famS (fs : List (List (List Int))) (l : List Int) : List (List (List Int)) := fs ++ (fs.filter (okF · l)).map (· ++ [l])
def famsE (ls : List (List Int)) : List (List (List Int)) := ls.foldl famS [[]]
theorem snoc_rec {α : Type} {p : List α → Prop} (h0 : p []) (h1 : ∀ xs x, p xs → p (xs ++ [x])) (xs : List α) : p xs := by
  have h : ∀ ys : List α, p ys.reverse := by
    intro ys
    induction ys with
    | nil => exact h0
    | cons y ys ih => rw [List.reverse_cons]; exact h1 _ _ ih
  have := h xs.reverse
  rwa [List.reverse_reverse] at this
theorem lotsE_succ (m : Nat) : lotsE (m + 1) = lotsS (lotsE m) ((m : Int) + 1) := by
  unfold lotsE
  rw [List.range_succ, List.foldl_append]
  rfl
theorem famsE_snoc (ls : List (List Int)) (l : List Int) : famsE (ls ++ [l]) = famS (famsE ls) l := by
  unfold famsE
  rw [List.foldl_append]
  rfl
theorem famsE_sub : ∀ (ls : List (List Int)), ∀ f ∈ famsE ls, f.Sublist ls ∧ f.Pairwise fun a b => crossB a b = false := by
  refine snoc_rec ?_ ?_
  · intro f hf
    rw [show famsE [] = [[]] from rfl, List.mem_singleton] at hf
    subst hf
    exact ⟨.slnil, .nil⟩
  · intro ls l ih f hf
    rw [famsE_snoc] at hf
    rcases List.mem_append.mp hf with h | h
    · exact ⟨(ih f h).1.trans (List.sublist_append_left ..), (ih f h).2⟩
    · obtain ⟨g, hg, rfl⟩ := List.mem_map.mp h
      obtain ⟨hg, ho⟩ := List.mem_filter.mp hg
      refine ⟨(ih g hg).1.append (List.Sublist.refl _), List.pairwise_append.mpr ⟨(ih g hg).2, List.pairwise_singleton .., fun a ha b hb => ?_⟩⟩
      rw [List.mem_singleton] at hb
      subst hb
      have := List.all_eq_true.mp ho a ha
      simpa using this
theorem famsE_len : ∀ (ls : List (List Int)), (famsE ls).length ≤ 2 ^ ls.length ∧ 1 ≤ (famsE ls).length := by
  refine snoc_rec ⟨Nat.le_refl _, Nat.le_refl _⟩ ?_
  intro ls l ih
  rw [famsE_snoc]
  unfold famS
  rw [List.length_append, List.length_append, List.length_map, List.length_singleton, Nat.pow_succ]
  have := List.length_filter_le (okF · l) (famsE ls)
  omega
def lots4 : List (List Int) := [[1], [1, 2], [1, 2, 3], [1, 2, 3, 4], [1, 2, 4], [1, 3], [1, 3, 4], [1, 4], [2], [2, 3], [2, 3, 4], [2, 4], [3], [3, 4], [4]]
/-- the lots of so many valleys, ascending -/
def lotsL (m : Nat) : List (List Int) := lots4.filter fun l => l.all fun v => decide (v < (m : Int))
def famL (m : Nat) : List (List (List Int)) := sortTT (famsE (lotsL m))
def treeOf (cs : Cs) (m : Nat) (ls : List (List Int)) : D := treeD cs.Tree (sortT ls) (seatsN ls m)
theorem five {m : Nat} (h1 : 1 ≤ m) (h5 : m ≤ 5) : m = 1 ∨ m = 2 ∨ m = 3 ∨ m = 4 ∨ m = 5 := by omega
theorem lotsL_len {m : Nat} : (lotsL m).length ≤ 15 := List.length_filter_le ..
theorem lotsL_mem {m : Nat} {l : List Int} (h : l ∈ lotsL m) : l ≠ [] ∧ l.length ≤ 4 ∧ l.Nodup ∧ (∀ v ∈ l, 1 ≤ v ∧ v < (m : Int)) ∧ l.Pairwise (· < ·) := by
  obtain ⟨h1, h2⟩ := List.mem_filter.mp h
  have hd : ∀ l ∈ lots4, l ≠ [] ∧ l.length ≤ 4 ∧ l.Nodup ∧ (∀ v ∈ l, 1 ≤ v) ∧ l.Pairwise (· < ·) := by decide +kernel
  obtain ⟨a, b, c, d, e⟩ := hd l h1
  exact ⟨a, b, c, fun v hv => ⟨d v hv, of_decide_eq_true (List.all_eq_true.mp h2 v hv)⟩, e⟩
theorem lots_lt {m : Nat} : (lotsL m).Pairwise (· < ·) := List.Pairwise.filter _ (show lots4.Pairwise (· < ·) by decide +kernel)
theorem combs_lots {m : Nat} (h1 : 1 ≤ m) (h5 : m ≤ 5) : sortL ((List.range (m - 1)).flatMap fun k => combsL (k + 1) (rgI 1 m)) = lotsL m := by
  refine sort_is ?_ lots_lt
  rcases five h1 h5 with rfl | rfl | rfl | rfl | rfl <;> decide +kernel
theorem every_lots {m : Nat} (h1 : 1 ≤ m) (h5 : m ≤ 5) : sortL (lotsE (m - 1)) = [] :: lotsL m := by
  refine sort_is ?_ (List.pairwise_cons.mpr ⟨fun l hl => ?_, lots_lt⟩)
  · rcases five h1 h5 with rfl | rfl | rfl | rfl | rfl <;> decide +kernel
  · have := lotsL_mem hl
    cases l with
    | nil => exact absurd rfl this.1
    | cons a l => exact List.nil_lt_cons ..
theorem lots_nodup {m : Nat} : (lotsL m).Nodup := List.Pairwise.imp (fun {a b} h e => absurd (e ▸ h) (List.lt_irrefl _)) lots_lt
theorem famL_mem {m : Nat} {f : List (List Int)} (h : f ∈ famL m) : f.Sublist (lotsL m) ∧ f.Pairwise fun a b => crossB a b = false := famsE_sub _ f ((sortTT_perm _).mem_iff.mp h)
theorem pair_sym {α : Type} {R : α → α → Prop} (hs : ∀ a b, R a b → R b a) : ∀ {l : List α}, l.Pairwise R → ∀ a ∈ l, ∀ b ∈ l, a = b ∨ R a b
  | [], _, _, ha, _, _ => nomatch ha
  | x :: l, h, a, ha, b, hb => by
    obtain ⟨h1, h2⟩ := List.pairwise_cons.mp h
    rcases List.mem_cons.mp ha with e | ha1 <;> rcases List.mem_cons.mp hb with e2 | hb1
    · exact .inl (e.trans e2.symm)
    · subst e; exact .inr (h1 _ hb1)
    · subst e2; exact .inr (hs _ _ (h1 _ ha1))
    · exact pair_sym hs h2 a ha1 b hb1
theorem famL_fam {m : Nat} (h1 : 1 ≤ m) (h5 : m ≤ 5) {f : List (List Int)} (h : f ∈ famL m) : Fam m f ∧ risL f = true := by
  obtain ⟨hs, hp⟩ := famL_mem h
  have hm : ∀ {l}, l ∈ f → l ∈ lotsL m := fun hl => hs.subset hl
  refine ⟨⟨fun l hl => (lotsL_mem (hm hl)).1, lots_nodup.sublist hs, fun l hl => ⟨(lotsL_mem (hm hl)).2.2.2.2, (lotsL_mem (hm hl)).2.2.2.1⟩, fun a ha b hb => ?_, ?_⟩, risL_of (lots_lt.sublist hs)⟩
  · have na := (lotsL_mem (hm ha)).2.2.1
    have nb := (lotsL_mem (hm hb)).2.2.1
    rcases pair_sym (R := fun a b => a.Nodup → b.Nodup → crossB a b = false) (fun a b h ha hb => by rw [crossB_sym ha hb]; exact h hb ha) (hp.imp fun h _ _ => h) a ha b hb with rfl | h
    · exact .inr (.inl fun v hv => hv)
    · have hc := h na nb
      refine Classical.byContradiction fun hn => ?_
      simp only [not_or] at hn
      obtain ⟨h1, h2, h3⟩ := hn
      have : crossB a b = true := (cross_iff na nb).mpr ⟨Classical.byContradiction fun z => h1 fun v hv hw => z ⟨v, hv, hw⟩, Classical.byContradiction fun z => h2 fun v hv => Classical.byContradiction fun hw => z ⟨v, hv, hw⟩, Classical.byContradiction fun z => h3 fun v hv => Classical.byContradiction fun hw => z ⟨v, hv, hw⟩⟩
      rw [hc] at this
      cases this
  · have := hs.length_le
    have := lotsL_len (m := m)
    omega
theorem famL_len {m : Nat} (h1 : 1 ≤ m) (h5 : m ≤ 5) : [1, 2, 8, 64, 832][m - 1]? = some (famL m).length := by
  unfold famL
  rw [(sortTT_perm _).length_eq]
  rcases five h1 h5 with rfl | rfl | rfl | rfl | rfl <;> decide +kernel
theorem famL_bound {m : Nat} : (famL m).length ≤ 32768 := by
  unfold famL
  rw [(sortTT_perm _).length_eq]
  have := (famsE_len (lotsL m)).1
  have h2 : 2 ^ (lotsL m).length ≤ 2 ^ 15 := Nat.pow_le_pow_right (by omega) lotsL_len
  omega
/-- the steps of the lists as data -/
def snocF (d x : D) : D := match x with
  | .tup xs => .tup (xs ++ [d])
  | _ => x
theorem snoc_lots {v : Int} {ls : List (List Int)} : ls.map tupI ++ (ls.map tupI).map (snocF (.int v)) = (lotsS ls v).map tupI := by
  unfold lotsS
  rw [List.map_append, List.map_map, List.map_map]
  congr 1
  refine List.map_congr_left fun l _ => ?_
  show D.tup (l.map D.int ++ [D.int v]) = D.tup ((l ++ [v]).map D.int)
  rw [List.map_append]
  rfl
def okD (l : List Int) (x : D) : Option D := match x with
  | .tup xs => if okF (xs.map intsD) l then some (.tup (xs ++ [tupI l])) else none
  | _ => none
theorem okD_tt {l : List Int} {f : List (List Int)} : okD l (tt f) = if okF f l then some (tt (f ++ [l])) else none := by
  have e : (f.map tupI).map intsD = f := by
    rw [List.map_map]
    exact (List.map_congr_left fun r _ => intsD_tup).trans (List.map_id f)
  show (if okF ((f.map tupI).map intsD) l then some (D.tup (f.map tupI ++ [tupI l])) else none) = _
  rw [e]
  unfold tt
  rw [List.map_append]
  rfl
theorem okD_map {l : List Int} : ∀ fs : List (List (List Int)), (fs.map tt).filterMap (okD l) = ((fs.filter (okF · l)).map (· ++ [l])).map tt
  | [] => rfl
  | f :: fs => by
    rw [List.map_cons, List.filterMap_cons, okD_tt, List.filter_cons]
    cases okF f l with
    | true =>
      rw [if_pos rfl, if_pos rfl, List.map_cons, List.map_cons, okD_map fs]
    | false =>
      rw [if_neg (by decide), if_neg (by decide), okD_map fs]
theorem famS_map {l : List Int} {fs : List (List (List Int))} : fs.map tt ++ (fs.map tt).filterMap (okD l) = (famS fs l).map tt := by
  rw [okD_map]
  unfold famS
  rw [List.map_append]
def treeD' (cs : Cs) (m : Nat) (x : D) : D := match x with
  | .tup xs => treeOf cs m (xs.map intsD)
  | _ => x
theorem treeD'_tt {cs : Cs} {m : Nat} {f : List (List Int)} : treeD' cs m (tt f) = treeOf cs m f := by
  have e : (f.map tupI).map intsD = f := by
    rw [List.map_map]
    exact (List.map_congr_left fun r _ => intsD_tup).trans (List.map_id f)
  show treeOf cs m ((f.map tupI).map intsD) = _
  rw [e]
def combF (vs : List Int) (x : D) : List D := match x with
  | .int j => combT j.toNat (vs.map D.int)
  | _ => []
theorem famsE_bound {m : Nat} (i : Nat) : (famsE ((lotsL m).take i)).length ≤ 32768 := by
  have := (famsE_len ((lotsL m).take i)).1
  have h2 : 2 ^ ((lotsL m).take i).length ≤ 2 ^ 15 := Nat.pow_le_pow_right (by omega) (Nat.le_trans (List.length_take_le' ..) lotsL_len)
  omega
def crD (l : List Int) (x : D) : Bool := crossB (intsD x) l
theorem crs_any {l : List Int} : ∀ f : List (List Int), (!((f.map tupI).any (crD l))) = okF f l
  | [] => rfl
  | a :: f => by
    have := crs_any (l := l) f
    rw [List.map_cons, List.any_cons, Bool.not_or, this]
    show ((!crossB (intsD (tupI a)) l) && okF f l) = _
    rw [intsD_tup]
    rfl
def oneD (l : List Int) (x : D) : Option D := if crD l x then some (.int 1) else none
theorem eqP_intsL {g : Bool → Bool} {a b : List Int} {k : D → Prop} (h : k (.bl (g (decide (a = b))))) : eqP g (.lst (a.map D.int)) (.lst (b.map D.int)) k := by
  have one : ∀ a : List Int, toP (.lst (a.map D.int)) = some (.list (a.map .int)) := fun a => by
    show (toPs (a.map D.int)).map PySem.PyData.list = _
    rw [toPs_ints]
    rfl
  refine ⟨_, _, one a, one b, shaped_ints a, shaped_ints b, ?_⟩
  simp only [PySem.PyData.eqv, eqv_ints]
  exact h
def onesL (l : List Int) (f : List (List Int)) : List Int := (f.filter (crossB · l)).map fun _ => 1
theorem onesc_map {l : List Int} : ∀ f : List (List Int), (f.map tupI).filterMap (oneD l) = (onesL l f).map D.int
  | [] => rfl
  | a :: f => by
    have e : oneD l (tupI a) = if crossB a l = true then some (D.int 1) else none := by
      unfold oneD crD
      rw [intsD_tup]
    have := onesc_map (l := l) f
    unfold onesL at this ⊢
    rw [List.map_cons, List.filterMap_cons, e, List.filter_cons]
    cases crossB a l with
    | true => rw [if_pos rfl, if_pos rfl, List.map_cons, List.map_cons, ← this]
    | false => rw [if_neg (by decide), if_neg (by decide), this]
theorem onesc_nil {l : List Int} : ∀ f : List (List Int), decide (onesL l f = []) = okF f l
  | [] => rfl
  | a :: f => by
    have := onesc_nil (l := l) f
    unfold onesL at this ⊢
    have e2 : okF (a :: f) l = ((!crossB a l) && okF f l) := rfl
    rw [e2, List.filter_cons]
    cases crossB a l with
    | true => rfl
    | false => rw [if_neg (by decide), this]; rfl
theorem compL_map {step : D → Nat → (List D → Nat → Prop) → Prop} {f : D → List D} : ∀ {xs : List D} {n : Nat} {P : List D → Nat → Prop}, (∀ x ∈ xs, ∀ n (k : List D → Nat → Prop), k (f x) n → step x n k) → P (xs.flatMap f) n → compL step xs n P
  | [], _, _, _, p => p
  | x :: xs, n, P, h, p => h x List.mem_cons_self n _ (compL_map (fun y hy => h y (List.mem_cons_of_mem _ hy)) (by rw [List.flatMap_cons] at p; exact p))
theorem rangeA_get {a : Int} {k i : Nat} {x : D} (h : (rangeD a k)[i]? = some x) : i < k ∧ x = .int ((i : Int) + a) := by
  have h1 := (List.getElem?_eq_some_iff.mp h).1
  rw [rangeA_len] at h1
  refine ⟨h1, ?_⟩
  unfold rangeD at h
  rw [List.getElem?_map, List.getElem?_range h1] at h
  have := Option.some.inj h
  rw [← this]
  show D.int (a + (i : Int)) = _
  rw [Int.add_comm]
theorem lotsE_short : ∀ (i : Nat), ∀ l ∈ lotsE i, l.length ≤ i
  | 0, l, hl => by
    rw [show lotsE 0 = [[]] from rfl, List.mem_singleton] at hl
    subst hl
    exact Nat.le_refl _
  | i + 1, l, hl => by
    rw [lotsE_succ] at hl
    rcases List.mem_append.mp hl with h | h
    · exact Nat.le_trans (lotsE_short i l h) (by omega)
    · obtain ⟨l2, hl2, rfl⟩ := List.mem_map.mp h
      rw [List.length_append]
      have := lotsE_short i l2 hl2
      show _ + 1 ≤ _
      omega
theorem combs_small : ∀ m, m < 6 → ∀ i, i < 5 → (combT (i + 1) ((rgI 1 ((m : Nat) : Int)).map D.int)).length ≤ 64 := by decide +kernel
theorem ints_all {p : Int → Prop} : ∀ {ds : List D}, (∀ d ∈ ds, ∃ v : Int, d = .int v ∧ p v) → ∃ q : List Int, ds = q.map D.int ∧ ∀ v ∈ q, p v
  | [], _ => ⟨[], rfl, fun v hv => nomatch hv⟩
  | d :: ds, h => by
    obtain ⟨v, rfl, hv⟩ := h d List.mem_cons_self
    obtain ⟨q, rfl, hq⟩ := ints_all fun e he => h e (List.mem_cons_of_mem _ he)
    exact ⟨v :: q, rfl, fun w hw => by
      rcases List.mem_cons.mp hw with rfl | hw
      · exact hv
      · exact hq w hw⟩

abbrev s_law_caught : Stmt := topS 37
theorem sc_law_caught : FnScope ["work", "caught", "error"] ["work"] (defScope s_law_caught) := ⟨rfl, rfl, rfl, by decide +kernel, rfl, by decide +kernel, by decide +kernel⟩
abbrev s_all_trees : Stmt := topS 29
def ds_is_number : DSp0 := fun ss n P => ∃ d, ss = [.d d] ∧ bareD d ∧ P (.bl (isInt d)) n
theorem len_is_number : ∀ ss n P, ds_is_number ss n P → ss.length = 1 := by rintro ss n P ⟨d, rfl, _⟩; rfl

def ds_is_between : DSp0 := fun ss n P => ∃ d lo hi, ss = [.d d, .d (.int lo), .d (.int hi)] ∧ bareD d ∧ P (.bl (betw lo hi d)) n
theorem len_is_between : ∀ ss n P, ds_is_between ss n P → ss.length = 3 := by rintro ss n P ⟨d, lo, hi, rfl, _⟩; rfl

def ds_law_draw : DSp0 := fun ss n P => ∃ z, ss = [.st, .d (.int z)] ∧ 0 < z ∧ z < 1073741824 ∧ n < LIM ∧ ∀ r n', 0 ≤ r → r < z → n' ≤ n + 1 → P (.int r) n'
theorem len_law_draw : ∀ ss n P, ds_law_draw ss n P → ss.length = 2 := by rintro ss n P ⟨z, rfl, _⟩; rfl

def ds_law_pick : DSp0 := fun ss n P => ∃ xs, (ss = [.st, .d (.tup xs)] ∨ ss = [.st, .d (.lst xs)]) ∧ 0 < xs.length ∧ xs.length ≤ 1000 ∧ n < LIM ∧ ∀ x ∈ xs, ∀ n', n' ≤ n + 1 → P x n'
theorem len_law_pick : ∀ ss n P, ds_law_pick ss n P → ss.length = 2 := by rintro ss n P ⟨xs, rfl | rfl, _⟩ <;> rfl



def ds_is_rising : DSp0 := fun ss n P => (∃ ns : List Int, ss = [.d (.tup (ns.map D.int))] ∧ ns.length ≤ 100 ∧ P (.bl (risB ns)) n) ∨ (∃ nss : List (List Int), ss = [.d (.tup (nss.map tupI))] ∧ nss.length ≤ 100 ∧ P (.bl (risL nss)) n)
theorem len_is_rising : ∀ ss n P, ds_is_rising ss n P → ss.length = 1 := by rintro ss n P (⟨ns, rfl, _⟩ | ⟨ns, rfl, _⟩) <;> rfl

def ds_is_lot : DSp0 := fun ss n P => ∃ (d : D) (lo hi : Int), ss = [.d d, .d (.int lo), .d (.int hi)] ∧ nx d = true ∧ shortD d = true ∧ P (.bl (lotB2 lo hi d)) n
theorem len_is_lot : ∀ ss n P, ds_is_lot ss n P → ss.length = 3 := by rintro ss n P ⟨d, lo, hi, rfl, _⟩; rfl

def ds_do_cross : DSp0 := fun ss n P => ∃ xs ys : List Int, ss = [.d (.tup (xs.map D.int)), .d (.tup (ys.map D.int))] ∧ xs.length ≤ 100 ∧ ys.length ≤ 100 ∧ P (.bl (crossB xs ys)) n
theorem len_do_cross : ∀ ss n P, ds_do_cross ss n P → ss.length = 2 := by rintro ss n P ⟨xs, ys, rfl, _⟩; rfl

def ds_law_crosses : DSp0 := fun ss n P => ∃ xs ys : List Int, ss = [.d (.tup (xs.map D.int)), .d (.tup (ys.map D.int))] ∧ xs.length ≤ 100 ∧ ys.length ≤ 100 ∧ P (.bl (crossB xs ys)) n
theorem len_law_crosses : ∀ ss n P, ds_law_crosses ss n P → ss.length = 2 := by rintro ss n P ⟨xs, ys, rfl, _⟩; rfl

def ds_ties_at : DSp0 := fun ss n P => ∃ (ts : List (Int × Int)) (p : Int), ss = [.d (.tup (ts.map pairI)), .d (.int p)] ∧ ts.length ≤ 100 ∧ P (.lst ((ts.filter (atB p)).map pairI)) n
theorem len_ties_at : ∀ ss n P, ds_ties_at ss n P → ss.length = 2 := by rintro ss n P ⟨ts, p, rfl, _⟩; rfl

def ds_steps_to : DSp0 := fun ss n P => ∃ (ts : List (Int × Int)) (goal : Int), ss = [.d (.tup (ts.map pairI)), .d (.int goal)] ∧ TsOk ts ∧ 0 ≤ goal ∧ goal ≤ (ts.length : Int) ∧ ∀ ks vs : List Int, StepsOk ts goal ks vs → P (.dic (ks.map keyI) (vs.map .int)) n
theorem len_steps_to : ∀ ss n P, ds_steps_to ss n P → ss.length = 2 := by rintro ss n P ⟨ts, p, rfl, _⟩; rfl

def ds_are_ties : DSp0 := fun ss n P => ∃ ts : List (Int × Int), ss = [.d (.tup (ts.map pairI))] ∧ TiesOk ts ∧ P (.bl true) n
theorem len_are_ties : ∀ ss n P, ds_are_ties ss n P → ss.length = 1 := by rintro ss n P ⟨ts, rfl, _⟩; rfl

def ds_are_seats : DSp0 := fun ss n P => ∃ (ts : List (Int × Int)) (seats : List Int), ss = [.d (.tup (ts.map pairI)), .d (.tup (seats.map D.int))] ∧ ts.length ≤ 21 ∧ SeatsOk ts seats ∧ P (.bl true) n
theorem len_are_seats : ∀ ss n P, ds_are_seats ss n P → ss.length = 2 := by rintro ss n P ⟨ts, seats, rfl, _⟩; rfl

def ds_Tree_init (cs : Cs) : DSI := fun ss n P XP => ∃ ts seats, ss = [.d (.tup (ts.map pairI)), .d (tupI seats)] ∧ TiesOk ts ∧ SeatsOk ts seats ∧ P tR [.tup (ts.map pairI), tupI seats] n
theorem len_Tree_init (cs : Cs) : ∀ ss n P XP, ds_Tree_init cs ss n P XP → ss.length + 1 = 3 := by rintro ss n P XP ⟨k, r, rfl, _⟩; rfl

def ds_check_many (cs : Cs) : DSp := fun ss n P XP => ∃ d, ss = [.d d] ∧ nx d = true ∧ (betw 1 12 d = true → P .non n) ∧ (betw 1 12 d = false → XP cs.BadMany [] [] n)
theorem len_check_many (cs : Cs) : ∀ ss n P XP, ds_check_many cs ss n P XP → ss.length = 1 := by rintro ss n P XP ⟨d, rfl, _⟩; rfl

def ds_are_partings (cs : Cs) : DSp := fun ss n P XP => ∃ m d, ss = [.d m, .d d] ∧ nx m = true ∧ nx d = true ∧ short2 d = true ∧ (betw 1 12 m = false → XP cs.BadMany [] [] n) ∧ (∀ k : Int, m = .int k → 1 ≤ k ∧ k ≤ 12 → P (.bl (partsB k d)) n)
theorem len_are_partings (cs : Cs) : ∀ ss n P XP, ds_are_partings cs ss n P XP → ss.length = 2 := by rintro ss n P XP ⟨m, d, rfl, _⟩; rfl

def ds_law_normal : DSp0 := fun ss n P => ∃ (many : Nat) (ls : List (List Int)), ss = [.d (.int many), .d (.tup (ls.map tupI))] ∧ many ≤ 12 ∧ Fam many ls ∧ ∀ ts, NormT ls ts → P (.tup [.tup (ts.map pairI), tupI (seatsN ls many)]) n
theorem len_law_normal : ∀ ss n P, ds_law_normal ss n P → ss.length = 2 := by rintro ss n P ⟨m, ls, rfl, _⟩; rfl

def ds_tie_of : DSp0 := fun ss n P => ∃ a b : Int, ss = [.d (.int a), .d (.int b)] ∧ P (tupI [min a b, max a b]) n
theorem len_tie_of : ∀ ss n P, ds_tie_of ss n P → ss.length = 2 := by rintro ss n P ⟨a, b, rfl, _⟩; rfl

def ds_inmost : DSp0 := fun ss n P => ∃ (many : Nat) (ls : List (List Int)) (v : Int) (size : Nat), ss = [.d (.tup (ls.map tupI)), .d (.int v), .d (.int size)] ∧ many ≤ 12 ∧ Fam many ls ∧ P (.int ((headN (leastN ls (aroundN ls v size)) : Nat) : Int)) n
theorem len_inmost : ∀ ss n P, ds_inmost ss n P → ss.length = 3 := by rintro ss n P ⟨m, ls, v, size, rfl, _⟩; rfl

def ds_tree_of (cs : Cs) : DSp := fun ss n P XP => ∃ m d, ss = [.d m, .d d] ∧ nx m = true ∧ nx d = true ∧ short2 d = true ∧ (betw 1 12 m = false → XP cs.BadMany [] [] n) ∧
  ∀ k : Nat, m = .int (k : Int) → 1 ≤ k → k ≤ 12 → (partsB k d = false ∧ XP cs.BadPartings [] [] n) ∨ ∃ ls, d = .tup (ls.map tupI) ∧ Fam k ls ∧ risL ls = true ∧ ∀ ts, NormT ls ts → P (treeD cs.Tree ts (seatsN ls k)) n
theorem len_tree_of (cs : Cs) : ∀ ss n P XP, ds_tree_of cs ss n P XP → ss.length = 2 := by rintro ss n P XP ⟨m, d, rfl, _⟩; rfl

def ds_law_is_normal (cs : Cs) : DSp0 := fun ss n P => ∃ (ts : List (Int × Int)) (m : Nat) (ls : List (List Int)), ss = [.d (treeD cs.Tree ts (seatsN ls m)), .d (.int m), .d (.tup (ls.map tupI))] ∧ 1 ≤ m ∧ m ≤ 12 ∧ Fam m ls ∧ NormT ls ts ∧ P (.bl true) n
theorem len_law_is_normal (cs : Cs) : ∀ ss n P, ds_law_is_normal cs ss n P → ss.length = 3 := by rintro ss n P ⟨ts, m, ls, rfl, _⟩; rfl

def ds_law_every_partings : DSp0 := fun ss n P => ∃ m : Nat, ss = [.d (.int (m : Int))] ∧ 1 ≤ m ∧ m ≤ 5 ∧ P (.lst ((famL m).map tt)) n
theorem len_law_every_partings : ∀ ss n P, ds_law_every_partings ss n P → ss.length = 1 := by rintro ss n P ⟨m, rfl, _⟩; rfl

def ds_trees (cs : Cs) : DSpO := fun ss n P XP => ∃ m : Nat, ss = [.d (.int (m : Int)), .d (.lst ((famL m).map tt))] ∧ 1 ≤ m ∧ m ≤ 5 ∧ P ((famL m).map (treeOf cs m)) n
theorem len_trees (cs : Cs) : ∀ ss n P XP, ds_trees cs ss n P XP → ss.length = 2 := by rintro ss n P XP ⟨m, rfl, _⟩; rfl

def ds_partings : DSp0 := fun ss n P => ∃ m : Nat, ss = [.d (.int (m : Int))] ∧ 1 ≤ m ∧ m ≤ 5 ∧ P (.lst ((lotsL m).map tupI)) n
theorem len_partings : ∀ ss n P, ds_partings ss n P → ss.length = 1 := by rintro ss n P ⟨m, rfl, _⟩; rfl

def ds_families : DSp0 := fun ss n P => ∃ m : Nat, ss = [.d (.int (m : Int))] ∧ 1 ≤ m ∧ m ≤ 5 ∧ P (.lst ((famL m).map tt)) n
theorem len_families : ∀ ss n P, ds_families ss n P → ss.length = 1 := by rintro ss n P ⟨m, rfl, _⟩; rfl

def ds_all_trees (cs : Cs) : DSpO := fun ss n P XP => ∃ d, ss = [.d d] ∧ nx d = true ∧ (betw 1 5 d = false ∧ XP cs.BadMany [] [] n ∨ ∃ m : Nat, d = .int (m : Int) ∧ 1 ≤ m ∧ m ≤ 5 ∧ P ((famL m).map (treeOf cs m)) n)
theorem len_all_trees (cs : Cs) : ∀ ss n P XP, ds_all_trees cs ss n P XP → ss.length = 1 := by rintro ss n P XP ⟨d, rfl, _⟩; rfl



end Lw

namespace Lw
open L2 PySem DL
local macro_rules | `(tactic| walk_at "dl") => `(tactic| simp only [xoSeq, xoRet, xnCallO, xnCallO0, xnCallKwO, xOf, xnIf, xiCombN, xsSeq, xsDropPop, xsNext, xsSet, xsRet, xsIf, xsDrop, xsFor, xVar, xC, xaNil, xaCons, xaSt, xOp, xUn, xCB, xB, xtAnd, xtOr, xtNot, xAndV, xNotV, xIf, xTup, xLst, xChain, xSl, xoNone, xoSome, xCall0, xCallX, xIsT, xIs, xFld, xPairs, xLc, xnLc, xtYes, xgName, xgTwo, xiRange1, xiRange2, xiZip, xsSetO, xIxO, xLenO, xTupO, xsAppO, xsMe, xMake, xjOwn, xLam, xStLeft, xStTurn, xStCells, xsStLeft, xsStTurn, xsLoop, xsRaise, startS, slotD_zero, slotD_succ, slotO_zero, slotO_succ, List.length_cons, List.length_nil, List.replicate, List.cons_append, List.nil_append, List.set, wipeS, addD, subD, intD, cmpD, mulD, ixD, slD, lenD, tupD, int1D, maxD, minD, negD, one1, two2, noOl, true_and, List.map_cons, List.map_nil, eqD, neD, eqP_int, eqP_bl, eqP_str, id, isTy, beq_self_eq_true, Bool.not_true, Bool.not_false, allD, svD, CPow, CMul, xStCells, Option.some.injEq, exists_eq_left', isSt, List.getElem?_cons_zero, List.getElem?_cons_succ, Nat.reduceAdd, Nat.reduceSub, Nat.sub_self, List.replicate_succ, List.replicate_zero, List.append_nil, Nat.zero_add, keyD, Nat.reduceLeDiff, Nat.zero_le, exists_and_left, vd_k, vd_r, xsWhile, xsParM, xmN, xnNil, xnLst, xtView, xsAppO, xiEnum, xsSetD, xsRetE, slotE_zero, slotE_succ, noOd, isOd, fldD, gp, gpI, ds0, neNilD, xListRng, sortTD, ltUD, pairD, xsSetPop0, xtNotInE, xsPutK, slotT_zero, slotT_succ, xListRg2, addLD, xLc2, xnLc2, notInD, lenKD, xMinDef, Bool.and_self, Bool.and_true, Bool.true_and, List.set_cons_zero, List.set_cons_succ])
section
variable {P : Program} {w : PySem.World} {K : PySem.W.Frag} {mg : Str → Option Value} {base : Heap} {TT : Tb} {cs : Cs} {tk0 : Tk}
abbrev s_is_number : Stmt := topS 8
theorem sc_is_number : FnScope ["thing"] ["thing"] (defScope s_is_number) := ⟨rfl, rfl, rfl, by decide +kernel, rfl, by decide +kernel, by decide +kernel⟩
theorem ok_is_number (T : Txt K mg cs tk0) (D : DefAt K mg "is_number" s_is_number ["thing"]) : Has P w K mg base CX0 1 "is_number" ["thing"] (sp0 K TT ds_is_number) := by
  obtain ⟨f, fd, F, hm, hk, hb⟩ := D
  refine ⟨f, fd, F.okD sc_is_number (len_is_number) (fun S cdv A outer s H E hr => ?_), hm, hk, hb⟩
  refine ⟨_, _, (pss_one (ps_ret (pe_and (pe_callB call_isD (by rfl) T.n_isinstance (by decide +kernel) (pa_cons (pv 0) (pa_cons (pe_bltn rfl T.n_int (by decide +kernel) (v := .ty "int") rfl) pa_nil))) (pe_one (pe_not (pe_callB call_isD (by rfl) T.n_isinstance (by decide +kernel) (pa_cons (pv 0) (pa_cons (pe_bltn rfl T.n_bool (by decide +kernel) (v := .ty "bool") rfl) pa_nil)))))))),
    (rds_ret (rd_andV (rd_isT (by decide) (rd_var (i := 0))) (rd_notV (rd_isT (by decide) (rd_var (i := 0)))))), ?_⟩
  rintro ss n P ⟨d, rfl, hb, p⟩
  walk_at "dl"
  refine ⟨hb, ?_⟩
  cases d <;> first | exact p | exact ⟨hb, p⟩

abbrev s_is_between : Stmt := topS 9
theorem sc_is_between : FnScope ["thing", "low", "high"] ["thing", "low", "high"] (defScope s_is_between) := ⟨rfl, rfl, rfl, by decide +kernel, rfl, by decide +kernel, by decide +kernel⟩
theorem ok_is_between (T : Txt K mg cs tk0) (D : DefAt K mg "is_between" s_is_between ["thing", "low", "high"]) (c_is_number : Has P w K mg base CX0 1 "is_number" ["thing"] (sp0 K TT ds_is_number)) : Has P w K mg base CX0 2 "is_between" ["thing", "low", "high"] (sp0 K TT ds_is_between) := by
  obtain ⟨f, fd, F, hm, hk, hb⟩ := D
  obtain ⟨_, _, c_is_number_ok, c_is_number_m, c_is_number_k, c_is_number_b⟩ := c_is_number
  refine ⟨f, fd, F.okD sc_is_between (len_is_between) (fun S cdv A outer s H E hr => ?_), hm, hk, hb⟩
  refine ⟨_, _, (pss_one (ps_ret (pe_and (pe_call c_is_number_ok (hr.mono (by decide)) rfl c_is_number_m c_is_number_k c_is_number_b .nil pass0 (pa_cons (pv 0) pa_nil)) (pe_one (pe_chain op_le op_le (pv 1) (pv 0) (pv 2)))))),
    (rds_ret (rd_andV (rd_call0 (E := E0) (rda_cons (rd_var (i := 0)) rda_nil)) (rd_chain o2_cmp o2_cmp (rd_var (i := 1)) (rd_var (i := 0)) (rd_var (i := 2))))), ?_⟩
  rintro ss n P ⟨d, lo, hi, rfl, hb, p⟩
  walk_at "dl"
  refine ⟨d, rfl, hb, ?_⟩
  cases d with
  | int i =>
    simp only [isInt]
    by_cases h1 : lo ≤ i
    · simp only [h1, decide_true]
      simpa [betw, h1] using p
    · simp only [h1, decide_false]
      simpa [betw, h1] using p
  | _ => exact p

abbrev s_law_draw : Stmt := topS 35
theorem sc_law_draw : FnScope ["state", "size_here", "turn", "cell", "mixed", "found"] ["state", "size_here"] (defScope s_law_draw) := ⟨rfl, rfl, rfl, by decide +kernel, rfl, by decide +kernel, by decide +kernel⟩
theorem ok_law_draw (T : Txt K mg cs tk0) (D : DefAt K mg "_law_draw" s_law_draw ["state", "size_here"]) : Has P w K mg base CX0 1 "_law_draw" ["state", "size_here"] (sp0 K TT ds_law_draw) := by
  obtain ⟨f, fd, F, hm, hk, hb⟩ := D
  refine ⟨f, fd, F.okD sc_law_draw (len_law_draw) (fun S cdv A outer s H E hr => ?_), hm, hk, hb⟩
  refine ⟨_, _, (pss_cons (ps_while PassesOwn.never (PW.pt (pw_and (pt_cmpR (op_eqD hr.units) (pe_dget (hu_of hr) (pv 0) pe_str (fun _ _ => rfl)) pe_int (nomark _)) (pw_and1 (pt_cmpR (op_neD hr.units) (pe_dget (hu_of hr) (pv 0) pe_str (fun _ _ => rfl)) (pe_lst pa_nil) (nomark _))))) (pss_one (ps_dput (hu_of hr) (pv 0) pe_str (pe_bm PySem.F.plainAttrs_list PySem.F.slot_list_pop PySem.F.type_list_pop mt_popAt (pe_dget (hu_of hr) (pv 0) pe_str (fun _ _ => rfl)) (pa_cons pe_int pa_nil)) rfl)))
      (pss_cons (ps_if (pt_cmpR op_gt (pe_dget (hu_of hr) (pv 0) pe_str (fun _ _ => rfl)) pe_int (nomark _)) (pss_cons (ps_set (i := 5) sc_law_draw.nd rfl (by first | exact Or.inl rfl | exact Or.inr rfl) (pe_op op_modN (pe_callTy call_rInt1 (by rfl) T.n_int (by decide +kernel) (pa_cons (pe_dget (hu_of hr) (pv 0) pe_str (fun _ _ => rfl)) pa_nil)) (pv 1)))
      (pss_cons (ps_dput (hu_of hr) (pv 0) pe_str (pe_op op_fdivN (pe_dget (hu_of hr) (pv 0) pe_str (fun _ _ => rfl)) (pv 1)) rfl)
      (pss_one (ps_ret (pv 5))))) pss_nil)
      (pss_cons (ps_set (i := 2) sc_law_draw.nd rfl (by first | exact Or.inl rfl | exact Or.inr rfl) (pe_op op_addU (pe_dget (hu_of hr) (pv 0) pe_str (fun _ _ => rfl)) pe_int))
      (pss_cons (ps_dput (hu_of hr) (pv 0) pe_str (pv 2) rfl)
      (pss_cons (ps_set (i := 3) sc_law_draw.nd rfl (by first | exact Or.inl rfl | exact Or.inr rfl) (pe_ifExp (pt_cmpR (op_neU hr.units) (pe_dget (hu_of hr) (pv 0) pe_str (fun _ _ => rfl)) (pe_lst pa_nil) (nomark _)) (pe_ix ix_seq (pe_dget (hu_of hr) (pv 0) pe_str (fun _ _ => rfl)) (pe_op op_modN (pe_callTy call_rInt1 (by rfl) T.n_int (by decide +kernel) (pa_cons (pv 2) pa_nil)) (pe_callB call_lenU (by rfl) T.n_len (by decide +kernel) (pa_cons (pe_dget (hu_of hr) (pv 0) pe_str (fun _ _ => rfl)) pa_nil))) (fun _ _ => rfl)) pe_int))
      (pss_cons (ps_set (i := 4) sc_law_draw.nd rfl (by first | exact Or.inl rfl | exact Or.inr rfl) (pe_op op_modN (pe_callTy call_rInt1 (by rfl) T.n_int (by decide +kernel) (pa_cons (pe_op op_pow (pe_op op_addU (pe_op op_addU (pe_op op_modN (pe_callTy call_rInt1 (by rfl) T.n_int (by decide +kernel) (pa_cons (pv 3) pa_nil)) pe_int) (pe_op op_mulU pe_int (pv 2))) pe_int) pe_int) pa_nil)) pe_int))
      (pss_one (ps_ret (pe_op op_modN (pe_callTy call_rInt1 (by rfl) T.n_int (by decide +kernel) (pa_cons (pe_op op_fdivN (pe_op op_modN (pe_callTy call_rInt1 (by rfl) T.n_int (by decide +kernel) (pa_cons (pe_op op_pow (pe_op op_addU (pv 4) (pe_op op_mulU pe_int (pv 2))) pe_int) pa_nil)) pe_int) pe_int) pa_nil)) (pv 1)))))))))),
    (rds_seq (rds_loop (i := 0))
      (rds_seq (rds_if (rdt_test (rd_op o2_cmp (rd_stLeft (i := 0)) rd_int)) (rds_seq (rds_set (rd_op o2_int (rd_cb cal_int (rda_cons (rd_stLeft (i := 0)) rda_nil)) (rd_var (i := 1))))
      (rds_seq (rds_stLeft (i := 0) (rd_op o2_int (rd_stLeft (i := 0)) (rd_var (i := 1))))
      (rds_ret (rd_var (i := 5))))) rds_next)
      (rds_seq (rds_set (rd_op o2_add (rd_stTurn (i := 0)) rd_int))
      (rds_seq (rds_stTurn (i := 0) (rd_var (i := 2)))
      (rds_seq (rds_set (rd_if (rdt_test (rd_op o2_ne (rd_stCells (i := 0)) (rd_lst rda_nil))) (rd_op o2_ix (rd_stCells (i := 0)) (rd_op o2_int (rd_cb cal_int (rda_cons (rd_var (i := 2)) rda_nil)) (rd_cb cal_len (rda_cons (rd_stCells (i := 0)) rda_nil)))) rd_int))
      (rds_seq (rds_set (rd_op o2_int (rd_cb cal_int (rda_cons (rd_op o2_int (rd_op o2_add (rd_op o2_add (rd_op o2_int (rd_cb cal_int (rda_cons (rd_var (i := 3)) rda_nil)) rd_int) (rd_op o2_mul rd_int (rd_var (i := 2)))) rd_int) rd_int) rda_nil)) rd_int))
      (rds_ret (rd_op o2_int (rd_cb cal_int (rda_cons (rd_op o2_int (rd_op o2_int (rd_cb cal_int (rda_cons (rd_op o2_int (rd_op o2_add (rd_var (i := 4)) (rd_op o2_mul rd_int (rd_var (i := 2)))) rd_int) rda_nil)) rd_int) rd_int) rda_nil)) (rd_var (i := 1)))))))))), ?_⟩
  rintro ss n P ⟨z, rfl, h0, h1, hn, p⟩
  have hn' : n < 1099511627776 := hn
  walk_at "dl"
  intro m hm
  by_cases hm0 : 0 < m
  · rw [show decide (0 < m) = true from decide_eq_true hm0]
    exact fun m hm => ⟨by omega, fun m1 hm1 => ⟨⟨by omega, by omega⟩, Int.fdiv_nonneg hm1 (by omega), p _ _ (Int.fmod_nonneg_of_pos _ h0) (Int.fmod_lt_of_pos _ h0) (by omega)⟩⟩
  · rw [show decide (0 < m) = false from decide_eq_false hm0]
    refine fun t ht => ⟨by omega, fun hc hl => eq_ints ?_⟩
    cases he : S.cs.isEmpty with
    | false =>
      refine fun _ _ _ _ => ⟨?_, ?_⟩
      · cases hcs : S.cs with
        | nil => rw [hcs] at he; cases he
        | cons a b => simp <;> omega
      · have hpos : (0 : Int) < S.cs.length := by
          cases hcs : S.cs with
          | nil => rw [hcs] at he; cases he
          | cons a b => simp <;> omega
        rw [List.length_map]
        obtain ⟨j, hj⟩ := Int.eq_ofNat_of_zero_le (Int.fmod_nonneg_of_pos ((t : Int) + 1) hpos)
        have hj2 := Int.fmod_lt_of_pos ((t : Int) + 1) hpos
        rw [hj] at hj2 ⊢
        have hj3 : j < S.cs.length := by omega
        have e : (S.cs.map D.int)[j]? = some (.int S.cs[j]) := by rw [List.getElem?_map, List.getElem?_eq_getElem hj3]; rfl
        refine ⟨_, at_nat e, ?_⟩
        clear hj hj2 e
        generalize S.cs[j] = c
        walk_at "dl"
        refine ⟨by decide, .inl ⟨by decide, by decide⟩, ⟨by decide, by decide, ?_⟩, by decide, .inl ⟨by decide, by decide⟩, ⟨by decide, by decide, ?_⟩, by decide, ⟨by decide, by decide⟩, by omega, p _ _ (Int.fmod_nonneg_of_pos _ h0) (Int.fmod_lt_of_pos _ h0) (by omega)⟩
        · have a1 := Int.fmod_nonneg_of_pos c (show (0 : Int) < 2147483563 by decide)
          have a2 := Int.fmod_lt_of_pos c (show (0 : Int) < 2147483563 by decide)
          omega
        · generalize (Int.fmod c 2147483563 + 40692 * ((t : Int) + 1) + 24681) ^ Int.toNat 3 = y
          have a1 := Int.fmod_nonneg_of_pos y (show (0 : Int) < 2147483629 by decide)
          have a2 := Int.fmod_lt_of_pos y (show (0 : Int) < 2147483629 by decide)
          omega
    | true =>
      walk_at "dl"
      refine ⟨by decide, .inl ⟨by decide, by decide⟩, ⟨by decide, by decide, ?_⟩, by decide, .inl ⟨by decide, by decide⟩, ⟨by decide, by decide, ?_⟩, by decide, ⟨by decide, by decide⟩, by omega, p _ _ (Int.fmod_nonneg_of_pos _ h0) (Int.fmod_lt_of_pos _ h0) (by omega)⟩
      · have a1 := Int.fmod_nonneg_of_pos 0 (show (0 : Int) < 2147483563 by decide)
        have a2 := Int.fmod_lt_of_pos 0 (show (0 : Int) < 2147483563 by decide)
        omega
      · generalize (Int.fmod 0 2147483563 + 40692 * ((t : Int) + 1) + 24681) ^ Int.toNat 3 = y
        have a1 := Int.fmod_nonneg_of_pos y (show (0 : Int) < 2147483629 by decide)
        have a2 := Int.fmod_lt_of_pos y (show (0 : Int) < 2147483629 by decide)
        omega

abbrev s_law_pick : Stmt := topS 36
theorem sc_law_pick : FnScope ["state", "several"] ["state", "several"] (defScope s_law_pick) := ⟨rfl, rfl, rfl, by decide +kernel, rfl, by decide +kernel, by decide +kernel⟩
theorem ok_law_pick (T : Txt K mg cs tk0) (D : DefAt K mg "_law_pick" s_law_pick ["state", "several"]) (c_law_draw : Has P w K mg base CX0 1 "_law_draw" ["state", "size_here"] (sp0 K TT ds_law_draw)) : Has P w K mg base CX0 2 "_law_pick" ["state", "several"] (sp0 K TT ds_law_pick) := by
  obtain ⟨f, fd, F, hm, hk, hb⟩ := D
  obtain ⟨_, _, c_law_draw_ok, c_law_draw_m, c_law_draw_k, c_law_draw_b⟩ := c_law_draw
  refine ⟨f, fd, F.okD sc_law_pick (len_law_pick) (fun S cdv A outer s H E hr => ?_), hm, hk, hb⟩
  refine ⟨_, _, (pss_one (ps_ret (pe_ix ix_seq (pv 1) (pe_call c_law_draw_ok (hr.mono (by decide)) rfl c_law_draw_m c_law_draw_k c_law_draw_b .nil pass0 (pa_cons (pv 0) (pa_cons (pe_callB call_lenU (by rfl) T.n_len (by decide +kernel) (pa_cons (pv 1) pa_nil)) pa_nil))) (fun _ _ => rfl)))),
    (rds_ret (rd_op o2_ix (rd_var (i := 1)) (rd_call0 (E := E0) (rda_st (i := 0) (rda_cons (rd_cb cal_len (rda_cons (rd_var (i := 1)) rda_nil)) rda_nil))))), ?_⟩
  rintro ss n P ⟨xs, hs, h0, h1, hn, p⟩
  have go : ∀ (r : Int) (n' : Nat), 0 ≤ r → r < xs.length → n' ≤ n + 1 → ∃ d, atD xs r = some d ∧ P d n' := fun r n' h2 h3 h4 => by
    obtain ⟨j, rfl⟩ := Int.eq_ofNat_of_zero_le h2
    have hj : j < xs.length := by omega
    exact ⟨xs[j], at_nat (List.getElem?_eq_getElem hj), p _ (List.getElem_mem hj) _ h4⟩
  rcases hs with rfl | rfl
  · walk_at "dl"
    exact ⟨_, rfl, by omega, by omega, hn, go⟩
  · walk_at "dl"
    exact ⟨_, rfl, by omega, by omega, hn, go⟩

abbrev s_law_begun : Stmt := topS 34
theorem sc_law_begun : FnScope ["script", "cells_here", "large", "cell"] ["script"] (defScope s_law_begun) := ⟨rfl, rfl, rfl, by decide +kernel, rfl, by decide +kernel, by decide +kernel⟩
theorem ok_law_begun (T : Txt K mg cs tk0) (D : DefAt K mg "_law_begun" s_law_begun ["script"]) : Has P w K mg base CX0 1 "_law_begun" ["script"] (spBegun K) := by
  obtain ⟨f, fd, F, hm, hk, hb⟩ := D
  refine ⟨f, fd, F.ok sc_law_begun (fun vs H Q E h => by obtain ⟨a, ns, rfl, _⟩ := h; rfl) (fun cdv A outer s H vs Q E hr h => ?_), hm, hk, hb⟩
  obtain ⟨a, ns, rfl, hS, hl, q⟩ := h
  refine ⟨_, (pss_cons (ps_setLc (i := 1) (own := [("cell", 3)]) (g := gName 3) rfl sc_law_begun.nd rfl rfl (sw_true rfl rfl rfl (by decide +kernel)) (pi_list (pv 0)) (blkOk_by (N := ["script", "cells_here", "large", "cell"]) (own := [("cell", 3)]) (sc := defScope s_law_begun) (by decide +kernel)) (fun _ _ _ _ _ => (pg_name (i := 3) sc_law_begun.nd rfl (by first | exact Or.inl rfl | exact Or.inr rfl))) (fun _ _ _ _ _ => pts_nil) (fun _ _ _ _ _ => (pe_callB call_rAbs (by rfl) T.n_abs (by decide +kernel) (pa_cons (pv 3) pa_nil))))
      (pss_cons (ps_setLc (i := 2) (own := [("cell", 3)]) (g := gName 3) rfl sc_law_begun.nd rfl rfl (sw_true rfl rfl rfl (by decide +kernel)) (pi_list (pv 1)) (blkOk_by (N := ["script", "cells_here", "large", "cell"]) (own := [("cell", 3)]) (sc := defScope s_law_begun) (by decide +kernel)) (fun _ _ _ _ _ => (pg_name (i := 3) sc_law_begun.nd rfl (by first | exact Or.inl rfl | exact Or.inr rfl))) (fun _ _ _ _ _ => (pts_one (pt_cmpR op_ge (pv 3) (pe_op op_pow pe_int pe_int) (nomark _)))) (fun _ _ _ _ _ => (pe_op op_sub (pv 3) (pe_op op_pow pe_int pe_int))))
      (pss_one (ps_ret (pe_disp (pps_cons pe_str (pv 2) (pps_cons pe_str (pv 1) (pps_cons pe_str pe_int (pps_cons pe_str pe_int pps_nil)))) (by rfl) (by rfl) (fun z => by cases z) (by decide)))))), ?_⟩
  refine ⟨.ref a, rfl, a, rfl, ⟨_, hS⟩, fun c hc => lc_list (xs := ns.map V.int) (fun i Hx => Hx = upd H c (.lst (((ns.take i).map absI).map V.int))) (by simp) ?_ ?_ ?_⟩
  · rintro i Hx hi rfl
    exact Evl.ex_l (Evl.Ex.new hc) hS
  · rintro i x Hx ex rfl
    rw [List.getElem?_map] at ex
    cases ez : ns[i]? with
    | none => rw [ez] at ex; cases ex
    | some z =>
      rw [ez] at ex
      cases ex
      refine ⟨rfl, ?_⟩
      unfold tYes
      dsimp only
      rw [if_pos rfl]
      refine ⟨_, rfl, z, rfl, _, upd_same, ?_, ?_⟩
      · have h1 : ((List.map V.int (List.map absI (List.take i ns))).length) ≤ 63 := by simp; omega
        exact Evl.sz_lt (by omega)
      · rw [upd_upd, List.take_add_one, ez]
        simp [absI]
  · rintro Hx rfl
    rw [List.length_map, List.take_length]
    generalize hcs : ns.map absI = cs
    have hz : cs.length ≤ 63 := by rw [← hcs, List.length_map]; exact hl
    have hp : ∀ x ∈ cs, 0 ≤ x := fun x hx => by
      rw [← hcs] at hx
      obtain ⟨z, _, rfl⟩ := List.mem_map.mp hx
      unfold absI
      split <;> omega
    have hbz : ∀ ys : List Int, (bigI ys).length ≤ ys.length := fun ys => by
      unfold bigI
      rw [List.length_map]
      exact List.length_filter_le _ _
    refine ⟨.ref c, rfl, c, rfl, ⟨_, SqL.of upd_same⟩, fun l hl' => lc_list (xs := cs.map V.int) (fun i Hx => Hx = upd (upd H c (.lst (cs.map V.int))) l (.lst ((bigI (cs.take i)).map V.int))) (by simp [bigI]) ?_ ?_ ?_⟩
    · rintro i Hx hi rfl
      exact Evl.ex_l (Evl.Ex.new hl') (SqL.of upd_same)
    · rintro i x Hx ex rfl
      rw [List.getElem?_map] at ex
      cases ez : cs[i]? with
      | none => rw [ez] at ex; cases ex
      | some z =>
        rw [ez] at ex
        cases ex
        have et : cs.take (i + 1) = cs.take i ++ [z] := by
          rw [List.take_add_one, ez]
          rfl
        refine ⟨rfl, ?_⟩
        refine ⟨_, rfl, 10, 18, rfl, rfl, ⟨by decide, by decide, by decide⟩, z, _, rfl, rfl, _, rfl, ?_⟩
        rw [et, bigI_snoc]
        have e18 : ((10 : Int) ^ Int.toNat 18) = 10 ^ 18 := rfl
        rw [e18]
        dsimp only
        by_cases h : (10 : Int) ^ 18 ≤ z
        · rw [if_pos (decide_eq_true h), if_pos h]
          refine ⟨_, rfl, 10, 18, rfl, rfl, ⟨by decide, by decide, by decide⟩, z, _, rfl, rfl, _, upd_same, ?_, ?_⟩
          · have h1 := hbz (cs.take i)
            have h2 : (cs.take i).length ≤ cs.length := by rw [List.length_take]; omega
            exact Evl.sz_lt (by rw [List.length_map]; omega)
          · rw [upd_upd, e18]
            simp
        · rw [if_neg (by simpa using h), if_neg h]
    · rintro Hx rfl
      rw [List.length_map, List.take_length]
      have hlc : c ≠ l := fun z => by rw [z, upd_same] at hl'; cases hl'
      have hl0 : H l = none := by rw [upd_ne hlc.symm] at hl'; exact hl'
      intro d hd
      have hdl : l ≠ d := fun z => by rw [z, upd_same] at hd; cases hd
      have hd1 : upd H c (.lst (cs.map V.int)) d = none := by rw [upd_ne hdl.symm] at hd; exact hd
      have hdc : c ≠ d := fun z => by rw [z, upd_same] at hd1; cases hd1
      have hd0 : H d = none := by rw [upd_ne hdc.symm] at hd1; exact hd1
      have em : mergeK [] (stBegun l c) = stBegun l c := by rfl
      have hb : ∀ x ∈ bigI cs, 0 ≤ x := fun x hx => by
        unfold bigI at hx
        obtain ⟨y, hy, rfl⟩ := List.mem_map.mp hx
        have h1 := (List.mem_filter.mp hy).2
        simp only [decide_eq_true_eq] at h1
        omega
      refine ⟨.ref l, rfl, .ref c, rfl, upd_same, stBegun l c, rfl, by simp [stBegun], ?_⟩
      rw [em, upd_upd]
      exact q c l d cs (bigI cs) _ hc hl0 hd0 hlc hdc hdl (by rw [upd_ne hdc, upd_ne hlc, upd_same]) (by rw [upd_ne hdl, upd_same]) upd_same (fun b h1 h2 h3 => by rw [upd_ne h3, upd_ne h2, upd_ne h1]) hp hb hz (Nat.le_trans (hbz cs) hz)

abbrev s_is_rising : Stmt := topS 10
theorem sc_is_rising : FnScope ["things", "lesser", "greater"] ["things"] (defScope s_is_rising) := ⟨rfl, rfl, rfl, by decide +kernel, rfl, by decide +kernel, by decide +kernel⟩
theorem ok_is_rising (T : Txt K mg cs tk0) (D : DefAt K mg "is_rising" s_is_rising ["things"]) : Has P w K mg base CX0 1 "is_rising" ["things"] (sp0 K TT ds_is_rising) := by
  obtain ⟨f, fd, F, hm, hk, hb⟩ := D
  refine ⟨f, fd, F.okD sc_is_rising (len_is_rising) (fun S cdv A outer s H E hr => ?_), hm, hk, hb⟩
  refine ⟨_, _, (pss_one (ps_ret (pe_callB (cr_all rfl) (by rfl) T.n_all (by decide +kernel) (pa_cons (pe_lc (own := [("lesser", 1), ("greater", 2)]) (g := gTup _ 2 (gCons (gName 1) (gCons (gName 2) gNil))) rfl sc_is_rising.nd (RZ.pi_zipA (by rfl) T.n_zip (pa_cons (pv 0) (pa_cons (pe_slice sl_U (pv 0) (po_some pe_int) po_none) pa_nil))) (blkOk_by (N := ["things", "lesser", "greater"]) (own := [("lesser", 1), ("greater", 2)]) (sc := defScope s_is_rising) (by decide +kernel)) (fun _ _ _ _ _ => (pg_tup rfl (pgs_cons (pg_name (i := 1) sc_is_rising.nd rfl (by first | exact Or.inl rfl | exact Or.inr rfl)) (pgs_cons (pg_name (i := 2) sc_is_rising.nd rfl (by first | exact Or.inl rfl | exact Or.inr rfl)) pgs_nil)))) (fun _ _ _ _ _ => pts_nil) (fun _ _ _ _ _ => (pe_cmpR (SCo.op_ltU hr.units0) (pv 1) (pv 2) (nomark _)))) pa_nil)))),
    (rds_ret (rd_cb cal_all (rda_cons (rd_lc (rdj_of (rdi_zip (rda_cons (rd_var (i := 0)) (rda_cons (rd_sl (rd_var (i := 0)) (rdo_some rd_int) rdo_none) rda_nil)))) (rdg_two (vs := [1, 2]) (by decide) (by decide)) rdt_yes (rd_op o2_ltU (rd_var (i := 1)) (rd_var (i := 2)))) rda_nil))), ?_⟩
  rintro ss n P (⟨ns, rfl, hl, p⟩ | ⟨nss, rfl, hl, p⟩)
  · walk_at "dl"
    rw [cut_from_one, rising_zip]
    refine ⟨by simp; omega, compM_map (f := fun d => match d with | .tup [.int a, .int b] => .bl (decide (a < b)) | _ => .non) (fun x hx n2 k q => ?_) ?_⟩
    · obtain ⟨⟨a, b⟩, _, rfl⟩ := List.mem_map.mp hx
      exact q
    · rw [List.map_map]
      refine ⟨(ns.zip (ns.drop 1)).map fun p => decide (p.1 < p.2), blsD_map, ?_⟩
      rw [all_map, risB_zip]
      exact p
  · walk_at "dl"
    rw [cut_from_one, ← List.map_drop, zipT_map]
    refine ⟨by simp; omega, compM_map (f := ltF) (fun x hx n2 k q => ?_) ?_⟩
    · obtain ⟨⟨a, b⟩, _, rfl⟩ := List.mem_map.mp hx
      refine ⟨a, rfl, b, rfl, ?_⟩
      have q' : k (some (.bl (SCo.ltI (intsOf (a.map D.int)) (intsOf (b.map D.int))))) n2 := q
      rw [intsOf_map, intsOf_map] at q'
      exact q'
    · rw [List.map_map]
      refine ⟨(nss.zip (nss.drop 1)).map fun p => SCo.ltI p.1 p.2, ?_, ?_⟩
      · rw [← blsD_map (f := fun p : List Int × List Int => SCo.ltI p.1 p.2)]
        refine congrArg _ (List.map_congr_left fun p _ => ?_)
        show D.bl (SCo.ltI (intsOf (p.1.map D.int)) (intsOf (p.2.map D.int))) = _
        rw [intsOf_map, intsOf_map]
      · rw [all_map]
        exact p


abbrev s_is_lot : Stmt := topS 11
theorem sc_is_lot : FnScope ["thing", "low", "high", "number"] ["thing", "low", "high"] (defScope s_is_lot) := ⟨rfl, rfl, rfl, by decide +kernel, rfl, by decide +kernel, by decide +kernel⟩
theorem ok_is_lot (T : Txt K mg cs tk0) (D : DefAt K mg "is_lot" s_is_lot ["thing", "low", "high"]) (c_is_between : Has P w K mg base CX0 2 "is_between" ["thing", "low", "high"] (sp0 K TT ds_is_between)) (c_is_rising : Has P w K mg base CX0 1 "is_rising" ["things"] (sp0 K TT ds_is_rising)) : Has P w K mg base CX0 3 "is_lot" ["thing", "low", "high"] (sp0 K TT ds_is_lot) := by
  obtain ⟨f, fd, F, hm, hk, hb⟩ := D
  obtain ⟨_, _, c_is_between_ok, c_is_between_m, c_is_between_k, c_is_between_b⟩ := c_is_between
  obtain ⟨_, _, c_is_rising_ok, c_is_rising_m, c_is_rising_k, c_is_rising_b⟩ := c_is_rising
  refine ⟨f, fd, F.okD sc_is_lot (len_is_lot) (fun S cdv A outer s H E hr => ?_), hm, hk, hb⟩
  refine ⟨_, _, (pss_cons (ps_if (PW.pt (pw_or (pt_not (pt_val (pe_callB call_isD (by rfl) T.n_isinstance (by decide +kernel) (pa_cons (pv 0) (pa_cons (pe_bltn rfl T.n_tuple (by decide +kernel) (v := .ty "tuple") rfl) pa_nil))))) (pw_or1 (pt_cmpR (op_eqU hr.units) (pe_callB call_lenU (by rfl) T.n_len (by decide +kernel) (pa_cons (pv 0) pa_nil)) pe_int (nomark _))))) (pss_one (ps_ret pe_bl)) pss_nil)
      (pss_one (ps_ret (pe_and (pe_callB (cr_all rfl) (by rfl) T.n_all (by decide +kernel) (pa_cons (pe_lc (own := [("number", 3)]) (g := gName 3) rfl sc_is_lot.nd (pi_tup (pv 0)) (blkOk_by (N := ["thing", "low", "high", "number"]) (own := [("number", 3)]) (sc := defScope s_is_lot) (by decide +kernel)) (fun _ _ _ _ _ => (pg_name (i := 3) sc_is_lot.nd rfl (by first | exact Or.inl rfl | exact Or.inr rfl))) (fun _ _ _ _ _ => pts_nil) (fun _ _ _ _ _ => (pe_call c_is_between_ok (hr.mono (by decide)) rfl c_is_between_m c_is_between_k c_is_between_b .nil pass0 (pa_cons (pv 3) (pa_cons (pv 1) (pa_cons (pv 2) pa_nil)))))) pa_nil)) (pe_one (pe_call c_is_rising_ok (hr.mono (by decide)) rfl c_is_rising_m c_is_rising_k c_is_rising_b .nil pass0 (pa_cons (pv 0) pa_nil))))))),
    (rds_seq (rds_if (rdt_or (rdt_not (rdt_B (rd_isT (by decide) (rd_var (i := 0))))) (rdt_test (rd_op o2_eq (rd_cb cal_len (rda_cons (rd_var (i := 0)) rda_nil)) rd_int))) (rds_ret rd_bl) rds_next)
      (rds_ret (rd_andV (rd_cb cal_all (rda_cons (rd_lc (rdj_of (rdi_tup (rd_var (i := 0)))) (rdg_name (vs := [3]) (by decide)) rdt_yes (rd_call0 (E := E0) (rda_cons (rd_var (i := 3)) (rda_cons (rd_var (i := 1)) (rda_cons (rd_var (i := 2)) rda_nil))))) rda_nil)) (rd_call0 (E := E0) (rda_cons (rd_var (i := 0)) rda_nil))))), ?_⟩
  rintro ss n P ⟨d, lo, hi, rfl, hx, hs, p⟩
  walk_at "dl"
  refine ⟨bare_of hx, ?_⟩
  cases d with
  | tup xs =>
    walk_at "dl"
    have hl : xs.length ≤ 100 := by simpa [shortD] using hs
    have hx' : nxs xs = true := hx
    rw [len0]
    simp only [lotB2] at p
    cases e0 : xs.isEmpty with
    | true =>
      rw [e0] at p
      exact p
    | false =>
      rw [e0] at p
      refine ⟨by omega, compM_map (f := fun x => .bl (betw lo hi x)) (fun y hy n' k q => ⟨y, lo, hi, rfl, bare_of (nxs_mem hx' hy), q⟩) (allD_map ?_)⟩
      cases e : xs.all (betw lo hi) with
      | false =>
        rw [e] at p
        exact p
      | true =>
        rw [e] at p
        exact .inl ⟨intsOf xs, by rw [← ints_eq e], by rw [intsOf_len]; omega, p⟩
  | _ => exact p


abbrev s_do_cross : Stmt := topS 23
theorem sc_do_cross : FnScope ["one", "other", "shared", "valley"] ["one", "other"] (defScope s_do_cross) := ⟨rfl, rfl, rfl, by decide +kernel, rfl, by decide +kernel, by decide +kernel⟩
theorem ok_do_cross (T : Txt K mg cs tk0) (D : DefAt K mg "do_cross" s_do_cross ["one", "other"]) : Has P w K mg base CX0 1 "do_cross" ["one", "other"] (sp0 K TT ds_do_cross) := by
  obtain ⟨f, fd, F, hm, hk, hb⟩ := D
  refine ⟨f, fd, F.okD sc_do_cross (len_do_cross) (fun S cdv A outer s H E hr => ?_), hm, hk, hb⟩
  refine ⟨_, _, (pss_cons (ps_setLc (i := 2) (own := [("valley", 3)]) (g := gName 3) rfl sc_do_cross.nd rfl rfl (sw_true rfl rfl rfl (by decide +kernel)) (pi_tup (pv 0)) (blkOk_by (N := ["one", "other", "shared", "valley"]) (own := [("valley", 3)]) (sc := defScope s_do_cross) (by decide +kernel)) (fun _ _ _ _ _ => (pg_name (i := 3) sc_do_cross.nd rfl (by first | exact Or.inl rfl | exact Or.inr rfl))) (fun _ _ _ _ _ => (pts_one (pt_cmpR op_in_seq (pv 3) (pv 1) (by with_unfolding_all rfl)))) (fun _ _ _ _ _ => (pv 3)))
      (pss_one (ps_ret (pe_chain op_lt op_lt pe_int (pe_callB call_lenU (by rfl) T.n_len (by decide +kernel) (pa_cons (pv 2) pa_nil)) (pe_callB (call_rMin2 rfl) (by rfl) T.n_min (by decide +kernel) (pa_cons (pe_callB call_lenU (by rfl) T.n_len (by decide +kernel) (pa_cons (pv 0) pa_nil)) (pa_cons (pe_callB call_lenU (by rfl) T.n_len (by decide +kernel) (pa_cons (pv 1) pa_nil)) pa_nil))))))),
    (rds_seq (rds_set (rd_lc (rdj_of (rdi_tup (rd_var (i := 0)))) (rdg_name (vs := [3]) (by decide)) (rdt_test (rd_op o2_in (rd_var (i := 3)) (rd_var (i := 1)))) (rd_var (i := 3))))
      (rds_ret (rd_chain o2_cmp o2_cmp rd_int (rd_cb cal_len (rda_cons (rd_var (i := 2)) rda_nil)) (rd_cb cal_min2 (rda_cons (rd_cb cal_len (rda_cons (rd_var (i := 0)) rda_nil)) (rda_cons (rd_cb cal_len (rda_cons (rd_var (i := 1)) rda_nil)) rda_nil)))))), ?_⟩
  rintro ss n P ⟨xs, ys, rfl, h1, h2, p⟩
  walk_at "dl"
  refine ⟨by rw [List.length_map]; omega, compM_filter (f := inF ys) (fun x hx n2 k q => ?_) ?_⟩
  · obtain ⟨v, _, rfl⟩ := List.mem_map.mp hx
    refine ⟨v, ys, rfl, rfl, ?_⟩
    cases e : ys.any (· == v) with
    | true => simp only [inF, e] at q; exact q
    | false => simp only [inF, e] at q; exact q
  · rw [inF_map, List.length_map]
    have z := p
    unfold crossB at z
    by_cases h0 : 0 < (sharedL xs ys).length
    · rw [show decide ((0 : Int) < ((sharedL xs ys).length : Int)) = true from decide_eq_true (by omega)]
      rw [decide_eq_true h0, Bool.true_and] at z
      have e : (if ((ys.map D.int).length : Int) < ((xs.map D.int).length : Int) then ((ys.map D.int).length : Int) else ((xs.map D.int).length : Int)) = ((min xs.length ys.length : Nat) : Int) := by
        rw [List.length_map, List.length_map]
        split <;> omega
      show P (.bl (decide (((sharedL xs ys).length : Int) < if ((ys.map D.int).length : Int) < ((xs.map D.int).length : Int) then ((ys.map D.int).length : Int) else ((xs.map D.int).length : Int)))) n
      rw [e]
      by_cases h3 : (sharedL xs ys).length < min xs.length ys.length
      · rw [decide_eq_true h3] at z
        rw [decide_eq_true (by omega)]
        exact z
      · rw [decide_eq_false h3] at z
        rw [decide_eq_false (by omega)]
        exact z
    · rw [show decide ((0 : Int) < ((sharedL xs ys).length : Int)) = false from decide_eq_false (by omega)]
      rw [decide_eq_false h0, Bool.false_and] at z
      exact z


abbrev s_law_crosses : Stmt := topS 38
theorem sc_law_crosses : FnScope ["one", "other", "both", "item"] ["one", "other"] (defScope s_law_crosses) := ⟨rfl, rfl, rfl, by decide +kernel, rfl, by decide +kernel, by decide +kernel⟩
theorem ok_law_crosses (T : Txt K mg cs tk0) (D : DefAt K mg "_law_crosses" s_law_crosses ["one", "other"]) : Has P w K mg base CX0 1 "_law_crosses" ["one", "other"] (sp0 K TT ds_law_crosses) := by
  obtain ⟨f, fd, F, hm, hk, hb⟩ := D
  refine ⟨f, fd, F.okD sc_law_crosses (len_law_crosses) (fun S cdv A outer s H E hr => ?_), hm, hk, hb⟩
  refine ⟨_, _, (pss_cons (ps_setLc (i := 2) (own := [("item", 3)]) (g := gName 3) rfl sc_law_crosses.nd rfl rfl (sw_true rfl rfl rfl (by decide +kernel)) (pi_tup (pv 0)) (blkOk_by (N := ["one", "other", "both", "item"]) (own := [("item", 3)]) (sc := defScope s_law_crosses) (by decide +kernel)) (fun _ _ _ _ _ => (pg_name (i := 3) sc_law_crosses.nd rfl (by first | exact Or.inl rfl | exact Or.inr rfl))) (fun _ _ _ _ _ => (pts_one (pt_cmpR op_in_seq (pv 3) (pv 1) (by with_unfolding_all rfl)))) (fun _ _ _ _ _ => (pv 3)))
      (pss_one (ps_ret (pe_and (pe_cmpR (op_neNil hr.units) (pv 2) (pe_lst pa_nil) (nomark _)) (pe_and (pe_cmpR op_lt (pe_callB call_lenU (by rfl) T.n_len (by decide +kernel) (pa_cons (pv 2) pa_nil)) (pe_callB call_lenU (by rfl) T.n_len (by decide +kernel) (pa_cons (pv 0) pa_nil)) (nomark _)) (pe_one (pe_cmpR op_lt (pe_callB call_lenU (by rfl) T.n_len (by decide +kernel) (pa_cons (pv 2) pa_nil)) (pe_callB call_lenU (by rfl) T.n_len (by decide +kernel) (pa_cons (pv 1) pa_nil)) (nomark _)))))))),
    (rds_seq (rds_set (rd_lc (rdj_of (rdi_tup (rd_var (i := 0)))) (rdg_name (vs := [3]) (by decide)) (rdt_test (rd_op o2_in (rd_var (i := 3)) (rd_var (i := 1)))) (rd_var (i := 3))))
      (rds_ret (rd_andV (rd_op o2_neNil (rd_var (i := 2)) (rd_lst rda_nil)) (rd_andV (rd_op o2_cmp (rd_cb cal_len (rda_cons (rd_var (i := 2)) rda_nil)) (rd_cb cal_len (rda_cons (rd_var (i := 0)) rda_nil))) (rd_op o2_cmp (rd_cb cal_len (rda_cons (rd_var (i := 2)) rda_nil)) (rd_cb cal_len (rda_cons (rd_var (i := 1)) rda_nil))))))), ?_⟩
  rintro ss n P ⟨xs, ys, rfl, h1, h2, p⟩
  walk_at "dl"
  refine ⟨by rw [List.length_map]; omega, compM_filter (f := inF ys) (fun x hx n2 k q => ?_) ?_⟩
  · obtain ⟨v, _, rfl⟩ := List.mem_map.mp hx
    refine ⟨v, ys, rfl, rfl, ?_⟩
    cases e : ys.any (· == v) with
    | true => simp only [inF, e] at q; exact q
    | false => simp only [inF, e] at q; exact q
  · rw [inF_map]
    have e1 : (!((sharedL xs ys).map D.int).isEmpty) = decide (0 < (sharedL xs ys).length) := by cases sharedL xs ys <;> rfl
    rw [e1, List.length_map, List.length_map, List.length_map]
    unfold crossB at p
    by_cases a0 : 0 < (sharedL xs ys).length
    · rw [decide_eq_true a0] at p ⊢
      by_cases a1 : ((sharedL xs ys).length : Int) < (xs.length : Int)
      · rw [decide_eq_true a1]
        rw [show decide ((sharedL xs ys).length < min xs.length ys.length) = decide (((sharedL xs ys).length : Int) < (ys.length : Int)) from decide_eq_decide.mpr (by omega)] at p
        exact p
      · rw [decide_eq_false a1]
        rw [show decide ((sharedL xs ys).length < min xs.length ys.length) = false from decide_eq_false (by omega)] at p
        exact p
    · rw [decide_eq_false a0] at p ⊢
      exact p


abbrev s_ties_at : Stmt := topS 19
theorem sc_ties_at : FnScope ["ties", "place", "tie"] ["ties", "place"] (defScope s_ties_at) := ⟨rfl, rfl, rfl, by decide +kernel, rfl, by decide +kernel, by decide +kernel⟩
theorem ok_ties_at (T : Txt K mg cs tk0) (D : DefAt K mg "_ties_at" s_ties_at ["ties", "place"]) : Has P w K mg base CX0 1 "_ties_at" ["ties", "place"] (sp0 K TT ds_ties_at) := by
  obtain ⟨f, fd, F, hm, hk, hb⟩ := D
  refine ⟨f, fd, F.okD sc_ties_at (len_ties_at) (fun S cdv A outer s H E hr => ?_), hm, hk, hb⟩
  refine ⟨_, _, (pss_one (ps_ret (pe_lc (own := [("tie", 2)]) (g := gName 2) rfl sc_ties_at.nd (pi_tup (pv 0)) (blkOk_by (N := ["ties", "place", "tie"]) (own := [("tie", 2)]) (sc := defScope s_ties_at) (by decide +kernel)) (fun _ _ _ _ _ => (pg_name (i := 2) sc_ties_at.nd rfl (by first | exact Or.inl rfl | exact Or.inr rfl))) (fun _ _ _ _ _ => (pts_one (pt_cmpR op_in_seq (pv 1) (pv 2) (by with_unfolding_all rfl)))) (fun _ _ _ _ _ => (pv 2))))),
    (rds_ret (rd_lc (rdj_of (rdi_tup (rd_var (i := 0)))) (rdg_name (vs := [2]) (by decide)) (rdt_test (rd_op o2_in (rd_var (i := 1)) (rd_var (i := 2)))) (rd_var (i := 2)))), ?_⟩
  rintro ss n P ⟨ts, p, rfl, hl, q0⟩
  walk_at "dl"
  refine ⟨by rw [List.length_map]; omega, compM_filter (f := atF p) (fun x hx n2 k q => ?_) ?_⟩
  · obtain ⟨t, _, rfl⟩ := List.mem_map.mp hx
    refine ⟨p, [t.1, t.2], rfl, rfl, ?_⟩
    have e : ([t.1, t.2].any (· == p)) = atB p t := by
      unfold atB
      by_cases h1 : t.1 = p
      · simp [h1]
      · by_cases h2 : t.2 = p
        · simp [h2]
        · simp [h1, h2]
    rw [e]
    have q' : k (match atB p (t.1, t.2) with | true => some (pairI (t.1, t.2)) | false => none) n2 := q
    have e2 : atB p (t.1, t.2) = atB p t := rfl
    rw [e2] at q'
    cases h : atB p t with
    | true =>
      rw [h] at q'
      exact q'
    | false =>
      rw [h] at q'
      exact q'
  · rw [atF_map]
    exact q0


abbrev s_steps_to : Stmt := topS 20
theorem sc_steps_to : FnScope ["ties", "goal", "step", "reached", "place", "one", "other", "farther"] ["ties", "goal"] (defScope s_steps_to) := ⟨rfl, rfl, rfl, by decide +kernel, rfl, by decide +kernel, by decide +kernel⟩
theorem ok_steps_to (T : Txt K mg cs tk0) (D : DefAt K mg "steps_to" s_steps_to ["ties", "goal"]) (c_ties_at : Has P w K mg base CX0 1 "_ties_at" ["ties", "place"] (sp0 K TT ds_ties_at)) : Has P w K mg base CX0 2 "steps_to" ["ties", "goal"] (sp0 K TT ds_steps_to) := by
  obtain ⟨f, fd, F, hm, hk, hb⟩ := D
  obtain ⟨_, _, c_ties_at_ok, c_ties_at_m, c_ties_at_k, c_ties_at_b⟩ := c_ties_at
  refine ⟨f, fd, F.okD sc_steps_to (len_steps_to) (fun S cdv A outer s H E hr => ?_), hm, hk, hb⟩
  refine ⟨_, _, (pss_cons (ps_set (i := 2) sc_steps_to.nd rfl (by first | exact Or.inl rfl | exact Or.inr rfl) (pe_disp (pps_cons (pv 1) (pv 1) pps_nil) (by rfl) (by rfl) (fun z => by cases z) (by decide)))
      (pss_cons (ps_set (i := 3) sc_steps_to.nd rfl (by first | exact Or.inl rfl | exact Or.inr rfl) (pe_lst (pa_cons (pv 1) pa_nil)))
      (pss_cons (ps_while PassesOwn.never (pt_cmpR op_gt (pe_callB call_lenU (by rfl) T.n_len (by decide +kernel) (pa_cons (pv 3) pa_nil)) pe_int (nomark _)) (pss_cons (ps_set (i := 4) sc_steps_to.nd rfl (by first | exact Or.inl rfl | exact Or.inr rfl) (pe_bm0 PySem.F.plainAttrs_list PySem.F.slot_list_pop PySem.F.type_list_pop mt_pop (pv 3)))
      (pss_one (ps_for PassesOwn.never rfl (pi_list (pe_call c_ties_at_ok (hr.mono (by decide)) rfl c_ties_at_m c_ties_at_k c_ties_at_b .nil pass0 (pa_cons (pv 0) (pa_cons (pv 4) pa_nil)))) (pg_tup rfl (pgs_cons (pg_name (i := 5) sc_steps_to.nd rfl (by first | exact Or.inl rfl | exact Or.inr rfl)) (pgs_cons (pg_name (i := 6) sc_steps_to.nd rfl (by first | exact Or.inl rfl | exact Or.inr rfl)) pgs_nil))) (pss_cons (ps_set (i := 7) sc_steps_to.nd rfl (by first | exact Or.inl rfl | exact Or.inr rfl) (pe_ifExp (pt_cmpR (op_eqU hr.units) (pv 5) (pv 4) (nomark _)) (pv 6) (pv 5)))
      (pss_one (ps_if (pt_cmp (pc_dnotin (hu_of hr) (pv 7) (pv 2)) rfl) (pss_cons (ps_dput (hu_of hr) (pv 2) (pv 7) (pv 4) rfl)
      (pss_one (ps_expr (pe_bm PySem.F.plainAttrs_list PySem.F.slot_list_append PySem.F.type_list_append mt_append (pv 3) (pa_cons (pv 7) pa_nil))))) pss_nil)))))))
      (pss_one (ps_ret (pv 2)))))),
    (rds_seq (rds_setD (.cons (rd_var (i := 1)) (rd_var (i := 1)) .nil))
      (rds_seq (rds_setO (rdn_lst (rda_cons (rd_var (i := 1)) rda_nil)))
      (rds_seq (rds_while (rdt_view (i := 3) (rdt_test (rd_op o2_cmp (rd_cb cal_len (rda_cons (rd_var (i := 3)) rda_nil)) rd_int))) (rds_seq (rds_setPop0 (i := 4) (j := 3))
      (rds_for (rdi_list (rd_call0 (E := E0) (rda_cons (rd_var (i := 0)) (rda_cons (rd_var (i := 4)) rda_nil)))) (rdg_two (vs := [5, 6]) (by decide) (by decide)) (rds_seq (rds_set (rd_if (rdt_test (rd_op o2_eq (rd_var (i := 5)) (rd_var (i := 4)))) (rd_var (i := 6)) (rd_var (i := 5))))
      (rds_if (rdt_notInE (i := 2) (rd_var (i := 7))) (rds_seq (rds_putK (i := 2) (rd_var (i := 7)) (rd_var (i := 4)))
      (rds_appO (i := 3) (rd_var (i := 7)))) rds_next)))))
      (rds_retE (i := 2))))), ?_⟩
  rintro ss n P ⟨ts, goal, rfl, t, g0, g1, p⟩
  walk_at "dl"
  have tl := t.l
  refine ⟨by simp, fun m ρ n' => n' = n ∧ ∃ (ks vs st : List Int) (u4 u5 u6 u7 : SV), ρ = [.d (.tup (ts.map pairI)), .d (.int goal), .od (ks.map keyI) (vs.map D.int), .ol (st.map D.int), u4, u5, u6, u7] ∧ m + ks.length = ts.length + 2 + st.length ∧ StepI ts goal ks vs st ∧ DoneI ts ks st [], ⟨ts.length + 2, rfl, [goal], [goal], [goal], _, _, _, _, rfl, rfl, stepI_start g0 g1, fun k hk hs => absurd hk hs⟩, ?_⟩
  rintro m ρ n' ⟨rfl, ks, vs, st, u4, u5, u6, u7, rfl, hm, hI, hD⟩
  have hfew := hI.few
  walk_at "dl"
  rw [List.length_map]
  cases st with
  | nil =>
    rw [show decide ((0 : Int) < (([] : List Int).length : Int)) = false from rfl]
    refine p ks vs ⟨hI, fun e he => ?_⟩
    exact ⟨fun hk => (hD e.1 hk (by simp) (by simp) e he).1 rfl, fun hk => (hD e.2 hk (by simp) (by simp) e he).2 rfl⟩
  | cons s0 st0 =>
    obtain ⟨ys, y, hst⟩ : ∃ ys y, s0 :: st0 = ys ++ [y] := ⟨(s0 :: st0).dropLast, (s0 :: st0).getLast (by simp), (List.dropLast_concat_getLast (by simp)).symm⟩
    rw [hst] at hI hD hm ⊢
    obtain ⟨hI2, hy, hyn⟩ := stepI_pop hI
    rw [decide_eq_true (by rw [List.length_append]; simp only [List.length_cons, List.length_nil]; omega)]
    refine ⟨ys.map D.int, .int y, by rw [List.map_append]; rfl, ?_⟩
    refine ⟨ts, y, rfl, by omega, ?_⟩
    show ∃ _, _
    rw [List.length_append] at hm
    simp only [List.length_cons, List.length_nil] at hm
    refine ⟨fun i ρ n2 => n2 = n' ∧ ∃ (ks vs st : List Int) (u5 u6 u7 : SV), ρ = [.d (.tup (ts.map pairI)), .d (.int goal), .od (ks.map keyI) (vs.map D.int), .ol (st.map D.int), .d (.int y), u5, u6, u7] ∧ m + ks.length = ts.length + 2 + (st.length + 1) ∧ StepI ts goal ks vs st ∧ y ∈ ks ∧ y ∉ st ∧ DoneI ts ks st [y] ∧ ∀ (j : Nat) (e : Int × Int), j < i → (ts.filter (atB y))[j]? = some e → e.1 ∈ ks ∧ e.2 ∈ ks, ⟨rfl, ks, vs, ys, _, _, _, rfl, by omega, hI2, hy, hyn, ?_, fun j e hj => absurd hj (Nat.not_lt_zero _)⟩, ?_, ?_⟩
    · intro k hk hs hx
      exact hD k hk (fun z => (List.mem_append.mp z).elim hs hx) (by simp)
    · rintro i x ρ n2 hx ⟨rfl, ks, vs, st, v5, v6, v7, rfl, hm, hI, hy, hyn, hD, hP⟩
      rw [List.getElem?_map] at hx
      obtain ⟨⟨a, b⟩, he, rfl⟩ := Option.map_eq_some_iff.mp hx
      clear hx
      obtain ⟨he1, he2⟩ := List.mem_filter.mp (List.mem_of_getElem? he)
      have hat : a = y ∨ b = y := of_decide_eq_true he2
      have nxt : ∀ ks2 : List Int, (∀ z ∈ ks, z ∈ ks2) → (a ∈ ks2 ∧ b ∈ ks2) → ∀ (j : Nat) (e : Int × Int), j < i + 1 → (ts.filter (atB y))[j]? = some e → e.1 ∈ ks2 ∧ e.2 ∈ ks2 := fun ks2 h1 h2 j e hj ej => by
        rcases Nat.lt_succ_iff_lt_or_eq.mp hj with hj | hj
        · exact ⟨h1 _ (hP j e hj ej).1, h1 _ (hP j e hj ej).2⟩
        · subst hj
          rw [he] at ej
          cases ej
          exact h2
      show _
      walk_at "dl"
      show eqP id (.int a) (.int y) _
      rw [eqP_int]
      simp only [id]
      by_cases hay : a = y
      · rw [decide_eq_true hay]
        refine ⟨keyI b, rfl, ?_⟩
        rw [keys_in]
        by_cases hf : b ∈ ks
        · rw [decide_eq_true hf]
          exact ⟨ks, vs, st, _, _, _, rfl, hm, hI, hy, hyn, hD, nxt ks (fun z hz => hz) ⟨by rw [hay]; exact hy, hf⟩⟩
        · rw [decide_eq_false hf]
          have hfew := hI.few
          have hst : st.length ≤ ks.length := nlenT hI.snd hI.sub
          refine ⟨⟨_, _, rfl⟩, keyI b, rfl, fun z => ?_, by rw [List.length_map]; omega, by rw [List.length_map]; omega, ks ++ [b], vs ++ [y], st ++ [b], _, _, _, by rw [List.map_append, List.map_append, List.map_append]; rfl, by rw [List.length_append, List.length_append]; simp only [List.length_cons, List.length_nil]; omega, stepI_add hI hy hf (.inr (by rw [← hay]; exact he1)) (t.b _ he1).2.2.1 (t.b _ he1).2.2.2, List.mem_append_left _ hy, fun z => (List.mem_append.mp z).elim hyn fun z2 => hf (by rw [← List.mem_singleton.mp z2]; exact hy), doneI_add hD, nxt (ks ++ [b]) (fun z hz => List.mem_append_left _ hz) ⟨List.mem_append_left _ (by rw [hay]; exact hy), List.mem_append_right _ (List.mem_singleton.mpr rfl)⟩⟩
          have := keyIn_mem.mpr z
          rw [keys_in] at this
          exact hf (of_decide_eq_true this)
      · have hby : b = y := hat.resolve_left hay
        rw [decide_eq_false hay]
        refine ⟨keyI a, rfl, ?_⟩
        rw [keys_in]
        by_cases hf : a ∈ ks
        · rw [decide_eq_true hf]
          exact ⟨ks, vs, st, _, _, _, rfl, hm, hI, hy, hyn, hD, nxt ks (fun z hz => hz) ⟨hf, by rw [hby]; exact hy⟩⟩
        · rw [decide_eq_false hf]
          have hfew := hI.few
          have hst : st.length ≤ ks.length := nlenT hI.snd hI.sub
          refine ⟨⟨_, _, rfl⟩, keyI a, rfl, fun z => ?_, by rw [List.length_map]; omega, by rw [List.length_map]; omega, ks ++ [a], vs ++ [y], st ++ [a], _, _, _, by rw [List.map_append, List.map_append, List.map_append]; rfl, by rw [List.length_append, List.length_append]; simp only [List.length_cons, List.length_nil]; omega, stepI_add hI hy hf (.inl (by rw [← hby]; exact he1)) (t.b _ he1).1 (t.b _ he1).2.1, List.mem_append_left _ hy, fun z => (List.mem_append.mp z).elim hyn fun z2 => hf (by rw [← List.mem_singleton.mp z2]; exact hy), doneI_add hD, nxt (ks ++ [a]) (fun z hz => List.mem_append_left _ hz) ⟨List.mem_append_right _ (List.mem_singleton.mpr rfl), List.mem_append_left _ (by rw [hby]; exact hy)⟩⟩
          have := keyIn_mem.mpr z
          rw [keys_in] at this
          exact hf (of_decide_eq_true this)
    · rintro ρ n2 ⟨rfl, ks, vs, st, v5, v6, v7, rfl, hm, hI, hy, hyn, hD, hP⟩
      rw [List.length_map] at hP
      refine ⟨m - 1, by have := hI.few; omega, rfl, ks, vs, st, _, _, _, _, rfl, by have := hI.few; omega, hI, fun k hk hs _ e he => ?_⟩
      by_cases hky : k = y
      · subst hky
        have hin : ∀ e ∈ ts, atB k e = true → e.1 ∈ ks ∧ e.2 ∈ ks := fun e he hb => by
          obtain ⟨j, ej⟩ := List.mem_iff_getElem?.mp (List.mem_filter.mpr ⟨he, hb⟩)
          exact hP j e (List.getElem?_eq_some_iff.mp ej).1 ej
        exact ⟨fun e1 => (hin e he (decide_eq_true (.inl e1))).2, fun e1 => (hin e he (decide_eq_true (.inr e1))).1⟩
      · exact hD k hk hs (by simp [hky]) e he


abbrev s_are_ties : Stmt := topS 17
theorem sc_are_ties : FnScope ["thing", "tie"] ["thing"] (defScope s_are_ties) := ⟨rfl, rfl, rfl, by decide +kernel, rfl, by decide +kernel, by decide +kernel⟩
theorem ok_are_ties (T : Txt K mg cs tk0) (D : DefAt K mg "_are_ties" s_are_ties ["thing"]) (c_is_lot : Has P w K mg base CX0 3 "is_lot" ["thing", "low", "high"] (sp0 K TT ds_is_lot)) (c_is_rising : Has P w K mg base CX0 1 "is_rising" ["things"] (sp0 K TT ds_is_rising)) (c_steps_to : Has P w K mg base CX0 2 "steps_to" ["ties", "goal"] (sp0 K TT ds_steps_to)) : Has P w K mg base CX0 4 "_are_ties" ["thing"] (sp0 K TT ds_are_ties) := by
  obtain ⟨f, fd, F, hm, hk, hb⟩ := D
  obtain ⟨_, _, c_is_lot_ok, c_is_lot_m, c_is_lot_k, c_is_lot_b⟩ := c_is_lot
  obtain ⟨_, _, c_is_rising_ok, c_is_rising_m, c_is_rising_k, c_is_rising_b⟩ := c_is_rising
  obtain ⟨_, _, c_steps_to_ok, c_steps_to_m, c_steps_to_k, c_steps_to_b⟩ := c_steps_to
  refine ⟨f, fd, F.okD sc_are_ties (len_are_ties) (fun S cdv A outer s H E hr => ?_), hm, hk, hb⟩
  refine ⟨_, _, (pss_cons (ps_if (PW.pt (pw_or (pt_not (pt_val (pe_callB call_isD (by rfl) T.n_isinstance (by decide +kernel) (pa_cons (pv 0) (pa_cons (pe_bltn rfl T.n_tuple (by decide +kernel) (v := .ty "tuple") rfl) pa_nil))))) (pw_or1 (pt_cmpR op_gt (pe_callB call_lenU (by rfl) T.n_len (by decide +kernel) (pa_cons (pv 0) pa_nil)) (pe_glob (v := .int 21) rfl T.k_MOST_TIES.2 ⟨_, rfl⟩) (nomark _))))) (pss_one (ps_ret pe_bl)) pss_nil)
      (pss_cons (ps_if (pt_not (pt_val (pe_callB (cr_all rfl) (by rfl) T.n_all (by decide +kernel) (pa_cons (pe_lc (own := [("tie", 1)]) (g := gName 1) rfl sc_are_ties.nd (pi_tup (pv 0)) (blkOk_by (N := ["thing", "tie"]) (own := [("tie", 1)]) (sc := defScope s_are_ties) (by decide +kernel)) (fun _ _ _ _ _ => (pg_name (i := 1) sc_are_ties.nd rfl (by first | exact Or.inl rfl | exact Or.inr rfl))) (fun _ _ _ _ _ => pts_nil) (fun _ _ _ _ _ => (pe_and (pe_call c_is_lot_ok (hr.mono (by decide)) rfl c_is_lot_m c_is_lot_k c_is_lot_b .nil pass0 (pa_cons (pv 1) (pa_cons pe_int (pa_cons (pe_callB call_lenU (by rfl) T.n_len (by decide +kernel) (pa_cons (pv 0) pa_nil)) pa_nil)))) (pe_one (pe_cmpR (op_eqU hr.units) (pe_callB call_lenU (by rfl) T.n_len (by decide +kernel) (pa_cons (pv 1) pa_nil)) pe_int (nomark _)))))) pa_nil)))) (pss_one (ps_ret pe_bl)) pss_nil)
      (pss_one (ps_ret (pe_and (pe_call c_is_rising_ok (hr.mono (by decide)) rfl c_is_rising_m c_is_rising_k c_is_rising_b .nil pass0 (pa_cons (pv 0) pa_nil)) (pe_one (pe_cmpR (op_eqU hr.units) (pe_callB call_lenK (by rfl) T.n_len (by decide +kernel) (pa_cons (pe_call c_steps_to_ok (hr.mono (by decide)) rfl c_steps_to_m c_steps_to_k c_steps_to_b .nil pass0 (pa_cons (pv 0) (pa_cons pe_int pa_nil))) pa_nil)) (pe_op op_addU (pe_callB call_lenU (by rfl) T.n_len (by decide +kernel) (pa_cons (pv 0) pa_nil)) pe_int) (nomark _)))))))),
    (rds_seq (rds_if (rdt_or (rdt_not (rdt_B (rd_isT (by decide) (rd_var (i := 0))))) (rdt_test (rd_op o2_cmp (rd_cb cal_len (rda_cons (rd_var (i := 0)) rda_nil)) rd_int))) (rds_ret rd_bl) rds_next)
      (rds_seq (rds_if (rdt_not (rdt_B (rd_cb cal_all (rda_cons (rd_lc (rdj_of (rdi_tup (rd_var (i := 0)))) (rdg_name (vs := [1]) (by decide)) rdt_yes (rd_andV (rd_call0 (E := E0) (rda_cons (rd_var (i := 1)) (rda_cons rd_int (rda_cons (rd_cb cal_len (rda_cons (rd_var (i := 0)) rda_nil)) rda_nil)))) (rd_op o2_eq (rd_cb cal_len (rda_cons (rd_var (i := 1)) rda_nil)) rd_int))) rda_nil)))) (rds_ret rd_bl) rds_next)
      (rds_ret (rd_andV (rd_call0 (E := E0) (rda_cons (rd_var (i := 0)) rda_nil)) (rd_op o2_eq (rd_cb cal_lenK (rda_cons (rd_call0 (E := E0) (rda_cons (rd_var (i := 0)) (rda_cons rd_int rda_nil))) rda_nil)) (rd_op o2_add (rd_cb cal_len (rda_cons (rd_var (i := 0)) rda_nil)) rd_int)))))), ?_⟩
  rintro ss n P ⟨ts, rfl, t, p⟩
  walk_at "dl"
  have tl := t.l
  have hl : (ts.map pairI).length = ts.length := List.length_map ..
  have hx : nxs (ts.map pairI) = true := nxs_of fun d hd => by
    obtain ⟨e, _, rfl⟩ := List.mem_map.mp hd
    rfl
  rw [hl]
  refine ⟨bare_of (d := .tup (ts.map pairI)) hx, ?_⟩
  rw [decide_eq_false (by omega)]
  refine ⟨by omega, compM_map (f := fun _ => .bl true) (fun x hx2 n2 k q => ?_) (allD_map ?_)⟩
  · obtain ⟨e, he, rfl⟩ := List.mem_map.mp hx2
    refine ⟨_, _, _, rfl, rfl, rfl, ?_⟩
    rw [pair_lot t he]
    show eqP id (.int 2) (.int 2) _
    rw [eqP_int]
    exact q
  · rw [show ((ts.map pairI).all fun _ => true) = true by simp]
    show ds_is_rising _ _ _
    refine .inr ⟨ts.map fun e => [e.1, e.2], ?_, by rw [List.length_map]; omega, ?_⟩
    · rw [List.map_map]
      rfl
    · rw [t.ris]
      show ds_steps_to _ _ _
      refine ⟨ts, 0, rfl, ⟨by omega, fun e he => by have := t.b e he; omega⟩, by omega, by omega, fun ks vs hs => ?_⟩
      show eqP id (.int ((ks.map keyI).length : Nat)) (.int ((ts.length : Int) + 1)) _
      rw [eqP_int, List.length_map, t.conn ks vs hs]
      simp only [id]
      rw [decide_eq_true (by omega)]
      exact p


abbrev s_are_seats : Stmt := topS 18
theorem sc_are_seats : FnScope ["ties", "thing", "lost", "place", "seat"] ["ties", "thing"] (defScope s_are_seats) := ⟨rfl, rfl, rfl, by decide +kernel, rfl, by decide +kernel, by decide +kernel⟩
theorem ok_are_seats (T : Txt K mg cs tk0) (D : DefAt K mg "_are_seats" s_are_seats ["ties", "thing"]) (c_is_between : Has P w K mg base CX0 2 "is_between" ["thing", "low", "high"] (sp0 K TT ds_is_between)) (c_ties_at : Has P w K mg base CX0 1 "_ties_at" ["ties", "place"] (sp0 K TT ds_ties_at)) : Has P w K mg base CX0 3 "_are_seats" ["ties", "thing"] (sp0 K TT ds_are_seats) := by
  obtain ⟨f, fd, F, hm, hk, hb⟩ := D
  obtain ⟨_, _, c_is_between_ok, c_is_between_m, c_is_between_k, c_is_between_b⟩ := c_is_between
  obtain ⟨_, _, c_ties_at_ok, c_ties_at_m, c_ties_at_k, c_ties_at_b⟩ := c_ties_at
  refine ⟨f, fd, F.okD sc_are_seats (len_are_seats) (fun S cdv A outer s H E hr => ?_), hm, hk, hb⟩
  refine ⟨_, _, (pss_cons (ps_if (PW.pt (pw_or (pt_not (pt_val (pe_callB call_isD (by rfl) T.n_isinstance (by decide +kernel) (pa_cons (pv 1) (pa_cons (pe_bltn rfl T.n_tuple (by decide +kernel) (v := .ty "tuple") rfl) pa_nil))))) (pw_or1 (pt_not (pt_chain op_le op_le pe_int (pe_callB call_lenU (by rfl) T.n_len (by decide +kernel) (pa_cons (pv 1) pa_nil)) (pe_glob (v := .int 12) rfl T.k_MOST_VALLEYS.2 ⟨_, rfl⟩)))))) (pss_one (ps_ret pe_bl)) pss_nil)
      (pss_cons (ps_if (pt_not (pt_val (pe_callB (cr_all rfl) (by rfl) T.n_all (by decide +kernel) (pa_cons (pe_lc (own := [("seat", 4)]) (g := gName 4) rfl sc_are_seats.nd (pi_tup (pv 1)) (blkOk_by (N := ["ties", "thing", "lost", "place", "seat"]) (own := [("seat", 4)]) (sc := defScope s_are_seats) (by decide +kernel)) (fun _ _ _ _ _ => (pg_name (i := 4) sc_are_seats.nd rfl (by first | exact Or.inl rfl | exact Or.inr rfl))) (fun _ _ _ _ _ => pts_nil) (fun _ _ _ _ _ => (pe_call c_is_between_ok (hr.mono (by decide)) rfl c_is_between_m c_is_between_k c_is_between_b .nil pass0 (pa_cons (pv 4) (pa_cons pe_int (pa_cons (pe_callB call_lenU (by rfl) T.n_len (by decide +kernel) (pa_cons (pv 0) pa_nil)) pa_nil)))))) pa_nil)))) (pss_one (ps_ret pe_bl)) pss_nil)
      (pss_cons (ps_setLc (i := 2) (own := [("place", 3)]) (g := gName 3) rfl sc_are_seats.nd rfl rfl (sw_true rfl rfl rfl (by decide +kernel)) (pi_range1 (by rfl) T.n_range (pa_cons (pe_op op_addU (pe_callB call_lenU (by rfl) T.n_len (by decide +kernel) (pa_cons (pv 0) pa_nil)) pe_int) pa_nil)) (blkOk_by (N := ["ties", "thing", "lost", "place", "seat"]) (own := [("place", 3)]) (sc := defScope s_are_seats) (by decide +kernel)) (fun _ _ _ _ _ => (pg_name (i := 3) sc_are_seats.nd rfl (by first | exact Or.inl rfl | exact Or.inr rfl))) (fun _ _ _ _ _ => (pts_one (pt_cmpR op_notIn_seq (pv 3) (pv 1) (by with_unfolding_all rfl)))) (fun _ _ _ _ _ => (pv 3)))
      (pss_one (ps_ret (pe_callB (cr_all rfl) (by rfl) T.n_all (by decide +kernel) (pa_cons (pe_lc (own := [("place", 3)]) (g := gName 3) rfl sc_are_seats.nd (pi_list (pv 2)) (blkOk_by (N := ["ties", "thing", "lost", "place", "seat"]) (own := [("place", 3)]) (sc := defScope s_are_seats) (by decide +kernel)) (fun _ _ _ _ _ => (pg_name (i := 3) sc_are_seats.nd rfl (by first | exact Or.inl rfl | exact Or.inr rfl))) (fun _ _ _ _ _ => pts_nil) (fun _ _ _ _ _ => (pe_cmpR op_ge (pe_callB call_lenU (by rfl) T.n_len (by decide +kernel) (pa_cons (pe_call c_ties_at_ok (hr.mono (by decide)) rfl c_ties_at_m c_ties_at_k c_ties_at_b .nil pass0 (pa_cons (pv 0) (pa_cons (pv 3) pa_nil))) pa_nil)) (pe_glob (v := .int 3) rfl T.k_LEAST_TIES_AT_LOST.2 ⟨_, rfl⟩) (nomark _)))) pa_nil))))))),
    (rds_seq (rds_if (rdt_or (rdt_not (rdt_B (rd_isT (by decide) (rd_var (i := 1))))) (rdt_not (rdt_test (rd_chain o2_cmp o2_cmp rd_int (rd_cb cal_len (rda_cons (rd_var (i := 1)) rda_nil)) rd_int)))) (rds_ret rd_bl) rds_next)
      (rds_seq (rds_if (rdt_not (rdt_B (rd_cb cal_all (rda_cons (rd_lc (rdj_of (rdi_tup (rd_var (i := 1)))) (rdg_name (vs := [4]) (by decide)) rdt_yes (rd_call0 (E := E0) (rda_cons (rd_var (i := 4)) (rda_cons rd_int (rda_cons (rd_cb cal_len (rda_cons (rd_var (i := 0)) rda_nil)) rda_nil))))) rda_nil)))) (rds_ret rd_bl) rds_next)
      (rds_seq (rds_set (rd_lc (rdj_of (rdi_range1 (rda_cons (rd_op o2_add (rd_cb cal_len (rda_cons (rd_var (i := 0)) rda_nil)) rd_int) rda_nil))) (rdg_name (vs := [3]) (by decide)) (rdt_test (rd_op o2_notIn (rd_var (i := 3)) (rd_var (i := 1)))) (rd_var (i := 3))))
      (rds_ret (rd_cb cal_all (rda_cons (rd_lc (rdj_of (rdi_list (rd_var (i := 2)))) (rdg_name (vs := [3]) (by decide)) rdt_yes (rd_op o2_cmp (rd_cb cal_len (rda_cons (rd_call0 (E := E0) (rda_cons (rd_var (i := 0)) (rda_cons (rd_var (i := 3)) rda_nil))) rda_nil)) rd_int)) rda_nil)))))), ?_⟩
  rintro ss n P ⟨ts, seats, rfl, h21, t, p⟩
  walk_at "dl"
  have hl := t.l
  have hx : nxs (seats.map D.int) = true := nxs_ints
  have hpl : (ts.map pairI).length = ts.length := List.length_map ..
  refine ⟨bare_of (d := .tup (seats.map D.int)) hx, ?_⟩
  rw [hpl, List.length_map]
  rw [decide_eq_true (by omega : (1 : Int) ≤ (seats.length : Int)), decide_eq_true (by omega : (seats.length : Int) ≤ 12)]
  refine ⟨by omega, compM_map (f := fun _ => .bl true) (fun x hx2 n2 k q => ?_) (allD_map ?_)⟩
  · obtain ⟨v, hv, rfl⟩ := List.mem_map.mp hx2
    have b := t.b v hv
    refine ⟨_, _, _, rfl, trivial, ?_⟩
    rw [show betw 0 (ts.length : Int) (.int v) = true by simp only [betw, Bool.and_eq_true, decide_eq_true_eq]; exact b]
    exact q
  · rw [show ((seats.map D.int).all fun _ => true) = true by simp]
    have ec : ((ts.length : Int) + 1).toNat = ts.length + 1 := by omega
    show _ ∧ _ ∧ _ ∧ _
    rw [ec]
    have erl : (rangeD 0 (ts.length + 1)).length = ts.length + 1 := range_len
    refine ⟨by omega, by omega, by rw [erl]; omega, compM_filter (f := lostF seats) (fun x hx2 n2 k q => ?_) ?_⟩
    · obtain ⟨i, hi, rfl⟩ := range_mem hx2
      refine ⟨_, rfl, seats, rfl, ?_⟩
      have q' : k (match !(seats.any fun z => z == (i : Int)) with | true => some (.int (i : Int)) | false => none) n2 := q
      cases e : !(seats.any fun z => z == (i : Int)) with
      | true =>
        rw [e] at q'
        exact q'
      | false =>
        rw [e] at q'
        exact q'
    · have hb : ((rangeD 0 (ts.length + 1)).filterMap (lostF seats)).length ≤ ts.length + 1 := by
        have := List.length_filterMap_le (lostF seats) (rangeD 0 (ts.length + 1))
        omega
      refine ⟨by omega, compM_map (f := fun _ => .bl true) (fun x hx2 n2 k q => ?_) (allD_map ?_)⟩
      · obtain ⟨y, hy, e⟩ := List.mem_filterMap.mp hx2
        obtain ⟨i, hi, rfl⟩ := range_mem hy
        obtain ⟨rfl, hn⟩ := lostF_some e
        refine ⟨ts, _, rfl, by omega, ?_⟩
        have h3 := t.lost (i : Int) (by omega) (by omega) hn
        show k (some (.bl (decide ((3 : Int) ≤ (((ts.filter (atB (i : Int))).map pairI).length : Int))))) n2
        rw [decide_eq_true (by rw [List.length_map]; omega)]
        exact q
      · rw [show (((rangeD 0 (ts.length + 1)).filterMap (lostF seats)).all fun _ => true) = true from List.all_eq_true.mpr fun _ _ => rfl]
        exact p


abbrev s_Tree_init : Stmt := inClass (topS 16) 0
theorem sc_Tree_init : FnScope ["self", "ties", "seats"] ["self", "ties", "seats"] (defScope s_Tree_init) := ⟨rfl, rfl, rfl, by decide +kernel, rfl, by decide +kernel, by decide +kernel⟩
theorem ok_Tree_init (T : Txt K mg cs tk0) (D : Init2 K "Tree.__init__" cs.Tree s_Tree_init "ties" "seats") (c_are_ties : Has P w K mg base CX0 4 "_are_ties" ["thing"] (sp0 K TT ds_are_ties)) (c_are_seats : Has P w K mg base CX0 3 "_are_seats" ["ties", "thing"] (sp0 K TT ds_are_seats)) : HasI P w K mg base 5 cs.Tree "ties" "seats" (spI K TT cs.Tree (ds_Tree_init cs)) := by
  obtain ⟨f, fd, F, hm, hk, hb⟩ := D
  obtain ⟨_, _, c_are_ties_ok, c_are_ties_m, c_are_ties_k, c_are_ties_b⟩ := c_are_ties
  obtain ⟨_, _, c_are_seats_ok, c_are_seats_m, c_are_seats_k, c_are_seats_b⟩ := c_are_seats
  refine ⟨f, fd, okI F sc_Tree_init (len_Tree_init cs) (fun S cdv A outer s H E hr => ?_), hm, hk, hb⟩
  have tk := takes_of (X := cxOf (L2.CX P w) P w K mg base ["self", "ties", "seats"] "Tree.__init__" (defScope s_Tree_init) f cdv A outer s H E) (E := E) rfl rfl rfl rfl
  refine ⟨_, _, (pss_cons (ps_if (pt_not (pt_val (pe_call c_are_ties_ok (hr.mono (by decide)) rfl c_are_ties_m c_are_ties_k c_are_ties_b .nil pass0 (pa_cons (pv 1) pa_nil)))) (pss_one (ps_raise (W := fun cls d _ H => E cls d H) rfl tk (pmk_own PySem.F.excBase_ValueError T.x_BadTies T.g_BadTies T.e_BadTies (raises_own T.b_BadTies T.t_BadTies) rfl))) pss_nil)
      (pss_cons (ps_if (pt_not (pt_val (pe_call c_are_seats_ok (hr.mono (by decide)) rfl c_are_seats_m c_are_seats_k c_are_seats_b .nil pass0 (pa_cons (pv 1) (pa_cons (pv 2) pa_nil))))) (pss_one (ps_raise (W := fun cls d _ H => E cls d H) rfl tk (pmk_own PySem.F.excBase_ValueError T.x_BadSeats T.g_BadSeats T.e_BadSeats (raises_own T.b_BadSeats T.t_BadSeats) rfl))) pss_nil)
      (pss_cons (ps_fld (pv 0) (pv 1) rfl)
      (pss_one (ps_fld (pv 0) (pv 2) rfl))))),
    (rds_seq (rds_if (rdt_not (rdt_B (rd_call0 (E := E0) (rda_cons (rd_var (i := 1)) rda_nil)))) rds_raise rds_next)
      (rds_seq (rds_if (rdt_not (rdt_B (rd_call0 (E := E0) (rda_cons (rd_var (i := 1)) (rda_cons (rd_var (i := 2)) rda_nil))))) rds_raise rds_next)
      (rds_seq (rds_fldM (rd_var (i := 1)))
      (rds_fldM (rd_var (i := 2)))))), ?_⟩
  rintro y ss n P XP ⟨ts, seats, rfl, t, s, p⟩
  walk_at "dl"
  refine ⟨ts, rfl, t, ?_⟩
  show ds_are_seats _ _ _
  exact ⟨ts, seats, rfl, t.l, s, rfl, T.ic_Tree.cl, T.na_Tree_ties, by decide, by decide, rfl, T.ic_Tree.cl, T.na_Tree_seats, by decide, by decide, rfl, rfl, p⟩


abbrev s_check_many : Stmt := topS 21
theorem sc_check_many : FnScope ["many"] ["many"] (defScope s_check_many) := ⟨rfl, rfl, rfl, by decide +kernel, rfl, by decide +kernel, by decide +kernel⟩
theorem ok_check_many (T : Txt K mg cs tk0) (D : DefAt K mg "check_many" s_check_many ["many"]) (c_is_between : Has P w K mg base CX0 2 "is_between" ["thing", "low", "high"] (sp0 K TT ds_is_between)) : Has P w K mg base (L2.CX P w) 3 "check_many" ["many"] (spX K TT (ds_check_many cs)) := by
  obtain ⟨f, fd, F, hm, hk, hb⟩ := D
  obtain ⟨_, _, c_is_between_ok, c_is_between_m, c_is_between_k, c_is_between_b⟩ := c_is_between
  refine ⟨f, fd, F.okXD sc_check_many (len_check_many cs) (fun S cdv A outer s H E hr => ?_), hm, hk, hb⟩
  have tk := takes_of (X := cxOf (L2.CX P w) P w K mg base ["many"] "check_many" (defScope s_check_many) f cdv A outer s H E) (E := E) rfl rfl rfl rfl
  refine ⟨_, _, (pss_one (ps_if (pt_not (pt_val (pe_call c_is_between_ok (hr.mono (by decide)) rfl c_is_between_m c_is_between_k c_is_between_b .nil pass0 (pa_cons (pv 0) (pa_cons pe_int (pa_cons (pe_glob (v := .int 12) rfl T.k_MOST_VALLEYS.2 ⟨_, rfl⟩) pa_nil)))))) (pss_one (ps_raise (W := fun cls d _ H => E cls d H) rfl tk (pmk_own PySem.F.excBase_ValueError T.x_BadMany T.g_BadMany T.e_BadMany (raises_own T.b_BadMany T.t_BadMany) rfl))) pss_nil)),
    (rds_if (rdt_not (rdt_B (rd_call0 (E := E0) (rda_cons (rd_var (i := 0)) (rda_cons rd_int (rda_cons rd_int rda_nil)))))) rds_raise rds_next), ?_⟩
  rintro ss n P XP ⟨d, rfl, hx, h1, h2⟩
  walk_at "dl"
  refine ⟨d, 1, 12, rfl, bare_of hx, ?_⟩
  cases e : betw 1 12 d with
  | true => exact h1 e
  | false => exact h2 e


abbrev s_are_partings : Stmt := topS 24
theorem sc_are_partings : FnScope ["many", "thing", "index", "one", "other", "lot"] ["many", "thing"] (defScope s_are_partings) := ⟨rfl, rfl, rfl, by decide +kernel, rfl, by decide +kernel, by decide +kernel⟩
theorem ok_are_partings (T : Txt K mg cs tk0) (D : DefAt K mg "are_partings" s_are_partings ["many", "thing"]) (c_check_many : Has P w K mg base (L2.CX P w) 3 "check_many" ["many"] (spX K TT (ds_check_many cs))) (c_is_lot : Has P w K mg base CX0 3 "is_lot" ["thing", "low", "high"] (sp0 K TT ds_is_lot)) (c_is_rising : Has P w K mg base CX0 1 "is_rising" ["things"] (sp0 K TT ds_is_rising)) (c_do_cross : Has P w K mg base CX0 1 "do_cross" ["one", "other"] (sp0 K TT ds_do_cross)) : Has P w K mg base (L2.CX P w) 4 "are_partings" ["many", "thing"] (spX K TT (ds_are_partings cs)) := by
  obtain ⟨f, fd, F, hm, hk, hb⟩ := D
  obtain ⟨_, _, c_check_many_ok, c_check_many_m, c_check_many_k, c_check_many_b⟩ := c_check_many
  obtain ⟨_, _, c_is_lot_ok, c_is_lot_m, c_is_lot_k, c_is_lot_b⟩ := c_is_lot
  obtain ⟨_, _, c_is_rising_ok, c_is_rising_m, c_is_rising_k, c_is_rising_b⟩ := c_is_rising
  obtain ⟨_, _, c_do_cross_ok, c_do_cross_m, c_do_cross_k, c_do_cross_b⟩ := c_do_cross
  refine ⟨f, fd, F.okXD sc_are_partings (len_are_partings cs) (fun S cdv A outer s H E hr => ?_), hm, hk, hb⟩
  have tk := takes_of (X := cxOf (L2.CX P w) P w K mg base ["many", "thing", "index", "one", "other", "lot"] "are_partings" (defScope s_are_partings) f cdv A outer s H E) (E := E) rfl rfl rfl rfl
  refine ⟨_, _, (pss_cons (ps_expr (pe_call c_check_many_ok (hr.mono (by decide)) rfl c_check_many_m c_check_many_k c_check_many_b .nil (passes_call tk (fun _ _ _ _ h => h)) (pa_cons (pv 0) pa_nil)))
      (pss_cons (ps_if (pt_not (pt_val (pe_callB call_isD (by rfl) T.n_isinstance (by decide +kernel) (pa_cons (pv 1) (pa_cons (pe_bltn rfl T.n_tuple (by decide +kernel) (v := .ty "tuple") rfl) pa_nil))))) (pss_one (ps_ret pe_bl)) pss_nil)
      (pss_cons (ps_if (PW.pt (pw_or (pt_not (pt_val (pe_callB (cr_all rfl) (by rfl) T.n_all (by decide +kernel) (pa_cons (pe_lc (own := [("lot", 5)]) (g := gName 5) rfl sc_are_partings.nd (pi_tup (pv 1)) (blkOk_by (N := ["many", "thing", "index", "one", "other", "lot"]) (own := [("lot", 5)]) (sc := defScope s_are_partings) (by decide +kernel)) (fun _ _ _ _ _ => (pg_name (i := 5) sc_are_partings.nd rfl (by first | exact Or.inl rfl | exact Or.inr rfl))) (fun _ _ _ _ _ => pts_nil) (fun _ _ _ _ _ => (pe_call c_is_lot_ok (hr.mono (by decide)) rfl c_is_lot_m c_is_lot_k c_is_lot_b .nil pass0 (pa_cons (pv 5) (pa_cons pe_int (pa_cons (pe_op op_sub (pv 0) pe_int) pa_nil)))))) pa_nil)))) (pw_or1 (pt_not (pt_val (pe_call c_is_rising_ok (hr.mono (by decide)) rfl c_is_rising_m c_is_rising_k c_is_rising_b .nil pass0 (pa_cons (pv 1) pa_nil))))))) (pss_one (ps_ret pe_bl)) pss_nil)
      (pss_cons (ps_for (passes_of rfl) rfl (RZ.pi_enumA (by rfl) T.n_enumerate (pa_cons (pv 1) pa_nil)) (pg_tup rfl (pgs_cons (pg_name (i := 2) sc_are_partings.nd rfl (by first | exact Or.inl rfl | exact Or.inr rfl)) (pgs_cons (pg_name (i := 3) sc_are_partings.nd rfl (by first | exact Or.inl rfl | exact Or.inr rfl)) pgs_nil))) (pss_one (ps_if (pt_val (pe_callB (cr_any rfl) (by rfl) T.n_any (by decide +kernel) (pa_cons (pe_lc (own := [("other", 4)]) (g := gName 4) rfl sc_are_partings.nd (pi_tup (pe_slice sl_U (pv 1) po_none (po_some (pv 2)))) (blkOk_by (N := ["many", "thing", "index", "one", "other", "lot"]) (own := [("other", 4)]) (sc := defScope s_are_partings) (by decide +kernel)) (fun _ _ _ _ _ => (pg_name (i := 4) sc_are_partings.nd rfl (by first | exact Or.inl rfl | exact Or.inr rfl))) (fun _ _ _ _ _ => pts_nil) (fun _ _ _ _ _ => (pe_call c_do_cross_ok (hr.mono (by decide)) rfl c_do_cross_m c_do_cross_k c_do_cross_b .nil pass0 (pa_cons (pv 3) (pa_cons (pv 4) pa_nil))))) pa_nil))) (pss_one (ps_ret pe_bl)) pss_nil)))
      (pss_one (ps_ret pe_bl)))))),
    (rds_seq (rds_drop (rd_callX (rda_cons (rd_var (i := 0)) rda_nil)))
      (rds_seq (rds_if (rdt_not (rdt_B (rd_isT (by decide) (rd_var (i := 1))))) (rds_ret rd_bl) rds_next)
      (rds_seq (rds_if (rdt_or (rdt_not (rdt_B (rd_cb cal_all (rda_cons (rd_lc (rdj_of (rdi_tup (rd_var (i := 1)))) (rdg_name (vs := [5]) (by decide)) rdt_yes (rd_call0 (E := E0) (rda_cons (rd_var (i := 5)) (rda_cons rd_int (rda_cons (rd_op o2_sub (rd_var (i := 0)) rd_int) rda_nil))))) rda_nil)))) (rdt_not (rdt_B (rd_call0 (E := E0) (rda_cons (rd_var (i := 1)) rda_nil))))) (rds_ret rd_bl) rds_next)
      (rds_seq (rds_for (rdi_enum (rda_cons (rd_var (i := 1)) rda_nil)) (rdg_two (vs := [2, 3]) (by decide) (by decide)) (rds_if (rdt_B (rd_cb cal_any (rda_cons (rd_lc (rdj_of (rdi_tup (rd_sl (rd_var (i := 1)) rdo_none (rdo_some (rd_var (i := 2)))))) (rdg_name (vs := [4]) (by decide)) rdt_yes (rd_call0 (E := E0) (rda_cons (rd_var (i := 3)) (rda_cons (rd_var (i := 4)) rda_nil)))) rda_nil))) (rds_ret rd_bl) rds_next))
      (rds_ret rd_bl))))), ?_⟩
  rintro ss n P XP ⟨m, d, rfl, hm, hd, hs, h1, h2⟩
  walk_at "dl"
  refine ⟨m, rfl, hm, fun hb => ?_, h1⟩
  obtain ⟨k, rfl, k1, k2⟩ : ∃ k : Int, m = .int k ∧ 1 ≤ k ∧ k ≤ 12 := by
    cases m with
    | int k =>
      simp only [betw, Bool.and_eq_true, decide_eq_true_eq] at hb
      exact ⟨k, rfl, hb⟩
    | _ => cases hb
  have p := h2 k rfl ⟨k1, k2⟩
  refine ⟨bare_of hd, ?_⟩
  cases d with
  | tup xs =>
    walk_at "dl"
    have hx' : nxs xs = true := hd
    simp only [short2, Bool.and_eq_true, decide_eq_true_eq, List.all_eq_true] at hs
    simp only [partsB] at p
    refine ⟨by omega, compM_map (f := fun x => .bl (lotB2 1 (k - 1) x)) (fun y hy n' k' q => ⟨y, 1, k - 1, rfl, nxs_mem hx' hy, hs.2 y hy, q⟩) (allD_map ?_)⟩
    cases e : xs.all (lotB2 1 (k - 1)) with
    | false =>
      rw [e] at p
      exact p
    | true =>
      rw [e] at p
      obtain ⟨ls, rfl, hls, hnd⟩ := lots_of e hs.2
      have el : (ls.map tupI).map intsD = ls := by
        rw [List.map_map]
        exact (List.map_congr_left fun r _ => intsD_tup).trans (List.map_id ls)
      rw [el] at p
      rw [List.length_map] at hs
      refine .inr ⟨ls, rfl, by omega, ?_⟩
      cases er : risL ls with
      | false =>
        rw [er] at p
        exact p
      | true =>
        rw [er] at p
        have p : P (.bl (noX ls)) n := p
        refine ⟨fun i ρ n' => n' = n ∧ (∃ u2 u3 u4 u5, ρ = [.d (.int k), .d (.tup (ls.map tupI)), u2, u3, u4, u5]) ∧ ∀ (a b : Nat) (x y : List Int), a < b → b < i → ls[a]? = some x → ls[b]? = some y → crossB y x = false, ⟨rfl, ⟨_, _, _, _, rfl⟩, fun a b x y h h' => absurd h' (Nat.not_lt_zero _)⟩, ?_, ?_⟩
        · rintro i v ρ n' hv ⟨rfl, ⟨u2, u3, u4, u5, rfl⟩, hI⟩
          rw [enumD_get, List.getElem?_map] at hv
          obtain ⟨w, hw, rfl⟩ := Option.map_eq_some_iff.mp hv
          obtain ⟨y, hy, rfl⟩ := Option.map_eq_some_iff.mp hw
          have hyl := hls y (List.mem_of_getElem? hy)
          show _
          walk_at "dl"
          rw [cut_to, ← List.map_take]
          refine ⟨by rw [List.length_map, List.length_take]; omega, compM_map (f := crossF y) (fun v hv n2 k' q => ?_) ?_⟩
          · obtain ⟨x, hx, rfl⟩ := List.mem_map.mp hv
            have hxl := hls x (List.mem_of_mem_take hx)
            refine ⟨y, x, rfl, hyl, hxl, ?_⟩
            unfold crossF at q
            rw [intsD_tup] at q
            exact q
          · refine anyD_map (f := fun v => crossB y (intsD v)) ?_
            cases ea : ((ls.take i).map tupI).any (fun v => crossB y (intsD v)) with
            | true =>
              obtain ⟨v, hv, hc⟩ := List.any_eq_true.mp ea
              obtain ⟨x, hx, rfl⟩ := List.mem_map.mp hv
              rw [intsD_tup] at hc
              obtain ⟨a, ha⟩ := List.mem_iff_getElem?.mp hx
              rw [List.getElem?_take] at ha
              have hai : a < i := by
                refine Classical.byContradiction fun hn => ?_
                rw [if_neg hn] at ha
                cases ha
              rw [if_pos hai] at ha
              rw [noX_not hnd hai ha hy hc] at p
              exact p
            | false =>
              refine ⟨rfl, ⟨_, _, _, _, rfl⟩, fun a b x z hab hb hx hz => ?_⟩
              rcases Nat.lt_succ_iff_lt_or_eq.mp hb with hb | hb
              · exact hI a b x z hab hb hx hz
              · subst hb
                rw [hy] at hz
                cases hz
                have := List.any_eq_false.mp ea (tupI x) (List.mem_map_of_mem (List.mem_of_getElem? (i := a) (by rw [List.getElem?_take, if_pos hab]; exact hx)))
                rw [intsD_tup] at this
                simpa using this
        · rintro ρ n' ⟨rfl, _, hI⟩
          have e9 : noX ls = true := noX_of hnd fun a b x y hab hx hy => hI a b x y hab (by rw [enumD_len, List.length_map]; exact (List.getElem?_eq_some_iff.mp hy).1) hx hy
          rw [e9] at p
          exact p
  | _ => exact p


abbrev s_law_normal : Stmt := topS 40
theorem sc_law_normal : FnScope ["many", "some", "valley_here", "ties_here", "seats_here", "spot", "lot", "above", "other", "near", "own", "lowest", "pair", "item", "each"] ["many", "some"] (defScope s_law_normal) := ⟨rfl, rfl, rfl, by decide +kernel, rfl, by decide +kernel, by decide +kernel⟩
theorem ok_law_normal (T : Txt K mg cs tk0) (D : DefAt K mg "_law_normal" s_law_normal ["many", "some"]) : Has P w K mg base CX0 1 "_law_normal" ["many", "some"] (sp0 K TT ds_law_normal) := by
  obtain ⟨f, fd, F, hm, hk, hb⟩ := D
  refine ⟨f, fd, F.okD sc_law_normal (len_law_normal) (fun S cdv A outer s H E hr => ?_), hm, hk, hb⟩
  refine ⟨_, _, (pss_cons (ps_par (i := 3) (j := 4) rfl sc_law_normal.nd rfl rfl (by decide) rfl rfl (pa_cons (pe_lst pa_nil) (pa_cons (pe_lst pa_nil) pa_nil)) (by rfl))
      (pss_cons (ps_for PassesOwn.never rfl (RZ.pi_enumA (by rfl) T.n_enumerate (pa_cons (pv 1) pa_nil)) (pg_tup rfl (pgs_cons (pg_name (i := 5) sc_law_normal.nd rfl (by first | exact Or.inl rfl | exact Or.inr rfl)) (pgs_cons (pg_name (i := 6) sc_law_normal.nd rfl (by first | exact Or.inl rfl | exact Or.inr rfl)) pgs_nil))) (pss_cons (ps_set (i := 7) sc_law_normal.nd rfl (by first | exact Or.inl rfl | exact Or.inr rfl) (pe_lst pa_nil))
      (pss_cons (ps_for PassesOwn.never rfl (pi_range1 (by rfl) T.n_range (pa_cons (pe_callB call_lenU (by rfl) T.n_len (by decide +kernel) (pa_cons (pv 1) pa_nil)) pa_nil)) (pg_name (i := 8) sc_law_normal.nd rfl (by first | exact Or.inl rfl | exact Or.inr rfl)) (pss_one (ps_if (PW.pt (pw_and (pt_cmpR (op_neU hr.units) (pv 8) (pv 5) (nomark _)) (pw_and1 (pt_cmpR (op_eqU hr.units) (pe_lc (own := [("item", 13)]) (g := gName 13) rfl sc_law_normal.nd (pi_tup (pv 6)) (blkOk_by (N := ["many", "some", "valley_here", "ties_here", "seats_here", "spot", "lot", "above", "other", "near", "own", "lowest", "pair", "item", "each"]) (own := [("item", 13)]) (sc := defScope s_law_normal) (by decide +kernel)) (fun _ _ _ _ _ => (pg_name (i := 13) sc_law_normal.nd rfl (by first | exact Or.inl rfl | exact Or.inr rfl))) (fun _ _ _ _ _ => (pts_one (pt_cmpR op_notIn_seq (pv 13) (pe_ix ix_seq (pv 1) (pv 8) (fun _ _ => rfl)) (by with_unfolding_all rfl)))) (fun _ _ _ _ _ => pe_int)) (pe_lst pa_nil) (nomark _))))) (pss_one (ps_expr (pe_bm PySem.F.plainAttrs_list PySem.F.slot_list_append PySem.F.type_list_append mt_append (pv 7) (pa_cons (pv 8) pa_nil)))) pss_nil)))
      (pss_cons (ps_setLc (i := 9) (own := [("other", 8)]) (g := gName 8) rfl sc_law_normal.nd rfl rfl (sw_true rfl rfl rfl (by decide +kernel)) (pi_list (pv 7)) (blkOk_by (N := ["many", "some", "valley_here", "ties_here", "seats_here", "spot", "lot", "above", "other", "near", "own", "lowest", "pair", "item", "each"]) (own := [("other", 8)]) (sc := defScope s_law_normal) (by decide +kernel)) (fun _ _ _ _ _ => (pg_name (i := 8) sc_law_normal.nd rfl (by first | exact Or.inl rfl | exact Or.inr rfl))) (fun _ _ _ _ _ => (pts_one (pt_cmpR (op_eqU hr.units) (pe_lc (own := [("each", 14)]) (g := gName 14) rfl sc_law_normal.nd (pi_list (pv 7)) (blkOk_by (N := ["many", "some", "valley_here", "ties_here", "seats_here", "spot", "lot", "above", "other", "near", "own", "lowest", "pair", "item", "each"]) (own := [("each", 14)]) (by rfl)) (fun _ _ _ _ _ => (pg_name (i := 14) sc_law_normal.nd rfl (by first | exact Or.inl rfl | exact Or.inr rfl))) (fun _ _ _ _ _ => (pts_one (pt_cmpR op_lt (pe_callB call_lenU (by rfl) T.n_len (by decide +kernel) (pa_cons (pe_ix ix_seq (pv 1) (pv 14) (fun _ _ => rfl)) pa_nil)) (pe_callB call_lenU (by rfl) T.n_len (by decide +kernel) (pa_cons (pe_ix ix_seq (pv 1) (pv 8) (fun _ _ => rfl)) pa_nil)) (nomark _)))) (fun _ _ _ _ _ => pe_int)) (pe_lst pa_nil) (nomark _)))) (fun _ _ _ _ _ => (pv 8)))
      (pss_one (ps_expr (pe_bm PySem.F.plainAttrs_list PySem.F.slot_list_append PySem.F.type_list_append mt_append (pv 3) (pa_cons (pe_tup (pa_cons (pe_ifExp (pt_cmpR (op_eqU hr.units) (pv 9) (pe_lst pa_nil) (nomark _)) pe_int (pe_op op_addU (pe_ix ix_seq (pv 9) pe_int (fun _ _ => rfl)) pe_int)) (pa_cons (pe_op op_addU (pv 5) pe_int) pa_nil))) pa_nil))))))))
      (pss_cons (ps_for PassesOwn.never rfl (pi_range1 (by rfl) T.n_range (pa_cons (pv 0) pa_nil)) (pg_name (i := 2) sc_law_normal.nd rfl (by first | exact Or.inl rfl | exact Or.inr rfl)) (pss_cons (ps_set (i := 10) sc_law_normal.nd rfl (by first | exact Or.inl rfl | exact Or.inr rfl) (pe_lc (own := [("spot", 5), ("lot", 6)]) (g := gTup _ 2 (gCons (gName 5) (gCons (gName 6) gNil))) rfl sc_law_normal.nd (RZ.pi_enumA (by rfl) T.n_enumerate (pa_cons (pv 1) pa_nil)) (blkOk_by (N := ["many", "some", "valley_here", "ties_here", "seats_here", "spot", "lot", "above", "other", "near", "own", "lowest", "pair", "item", "each"]) (own := [("spot", 5), ("lot", 6)]) (sc := defScope s_law_normal) (by decide +kernel)) (fun _ _ _ _ _ => (pg_tup rfl (pgs_cons (pg_name (i := 5) sc_law_normal.nd rfl (by first | exact Or.inl rfl | exact Or.inr rfl)) (pgs_cons (pg_name (i := 6) sc_law_normal.nd rfl (by first | exact Or.inl rfl | exact Or.inr rfl)) pgs_nil)))) (fun _ _ _ _ _ => (pts_one (pt_cmpR op_in_seq (pv 2) (pv 6) (by with_unfolding_all rfl)))) (fun _ _ _ _ _ => (pv 5))))
      (pss_cons (ps_setLc (i := 11) (own := [("spot", 5)]) (g := gName 5) rfl sc_law_normal.nd rfl rfl (sw_true rfl rfl rfl (by decide +kernel)) (pi_list (pv 10)) (blkOk_by (N := ["many", "some", "valley_here", "ties_here", "seats_here", "spot", "lot", "above", "other", "near", "own", "lowest", "pair", "item", "each"]) (own := [("spot", 5)]) (sc := defScope s_law_normal) (by decide +kernel)) (fun _ _ _ _ _ => (pg_name (i := 5) sc_law_normal.nd rfl (by first | exact Or.inl rfl | exact Or.inr rfl))) (fun _ _ _ _ _ => (pts_one (pt_cmpR (op_eqU hr.units) (pe_lc (own := [("other", 8)]) (g := gName 8) rfl sc_law_normal.nd (pi_list (pv 10)) (blkOk_by (N := ["many", "some", "valley_here", "ties_here", "seats_here", "spot", "lot", "above", "other", "near", "own", "lowest", "pair", "item", "each"]) (own := [("other", 8)]) (by rfl)) (fun _ _ _ _ _ => (pg_name (i := 8) sc_law_normal.nd rfl (by first | exact Or.inl rfl | exact Or.inr rfl))) (fun _ _ _ _ _ => (pts_one (pt_cmpR op_lt (pe_callB call_lenU (by rfl) T.n_len (by decide +kernel) (pa_cons (pe_ix ix_seq (pv 1) (pv 8) (fun _ _ => rfl)) pa_nil)) (pe_callB call_lenU (by rfl) T.n_len (by decide +kernel) (pa_cons (pe_ix ix_seq (pv 1) (pv 5) (fun _ _ => rfl)) pa_nil)) (nomark _)))) (fun _ _ _ _ _ => pe_int)) (pe_lst pa_nil) (nomark _)))) (fun _ _ _ _ _ => (pv 5)))
      (pss_one (ps_expr (pe_bm PySem.F.plainAttrs_list PySem.F.slot_list_append PySem.F.type_list_append mt_append (pv 4) (pa_cons (pe_ifExp (pt_cmpR (op_eqU hr.units) (pv 11) (pe_lst pa_nil) (nomark _)) pe_int (pe_op op_addU (pe_ix ix_seq (pv 11) pe_int (fun _ _ => rfl)) pe_int)) pa_nil)))))))
      (pss_one (ps_ret (pe_tup (pa_cons (pe_callTy call_tupU (by rfl) T.n_tuple (by decide +kernel) (pa_cons (pe_callB (SCo.cr_sortT hr) (by rfl) T.n_sorted (by decide +kernel) (pa_cons (pe_lc (own := [("pair", 12)]) (g := gName 12) rfl sc_law_normal.nd (pi_list (pv 3)) (blkOk_by (N := ["many", "some", "valley_here", "ties_here", "seats_here", "spot", "lot", "above", "other", "near", "own", "lowest", "pair", "item", "each"]) (own := [("pair", 12)]) (sc := defScope s_law_normal) (by decide +kernel)) (fun _ _ _ _ _ => (pg_name (i := 12) sc_law_normal.nd rfl (by first | exact Or.inl rfl | exact Or.inr rfl))) (fun _ _ _ _ _ => pts_nil) (fun _ _ _ _ _ => (pe_tup (pa_cons (pe_callB (SCo.cr_minT hr) (by rfl) T.n_min (by decide +kernel) (pa_cons (pv 12) pa_nil)) (pa_cons (pe_callB (SCo.cr_maxT hr) (by rfl) T.n_max (by decide +kernel) (pa_cons (pv 12) pa_nil)) pa_nil))))) pa_nil)) pa_nil)) (pa_cons (pe_callTy call_tupU (by rfl) T.n_tuple (by decide +kernel) (pa_cons (pv 4) pa_nil)) pa_nil)))))))),
    (rds_seq (rds_parM (i := 3) (j := 4) (rdm_n rdn_nil) (rdm_n rdn_nil))
      (rds_seq (rds_for (rdi_enum (rda_cons (rd_var (i := 1)) rda_nil)) (rdg_two (vs := [5, 6]) (by decide) (by decide)) (rds_seq (rds_setO rdn_nil)
      (rds_seq (rds_for (rdi_range1 (rda_cons (rd_cb cal_len (rda_cons (rd_var (i := 1)) rda_nil)) rda_nil)) (rdg_name (vs := [8]) (by decide)) (rds_if (rdt_and (rdt_test (rd_op o2_ne (rd_var (i := 8)) (rd_var (i := 5)))) (rdt_test (rd_op o2_eq (rd_lc (rdj_of (rdi_tup (rd_var (i := 6)))) (rdg_name (vs := [13]) (by decide)) (rdt_test (rd_op o2_notIn (rd_var (i := 13)) (rd_op o2_ix (rd_var (i := 1)) (rd_var (i := 8))))) rd_int) (rd_lst rda_nil)))) (rds_appO (i := 7) (rd_var (i := 8))) rds_next))
      (rds_seq (rds_set (rd_lc (rdj_own (i := 7)) (rdg_name (vs := [8]) (by decide)) (rdt_test (rd_op o2_eq (rd_lc (rdj_own (i := 7)) (rdg_name (vs := [14]) (by decide)) (rdt_test (rd_op o2_cmp (rd_cb cal_len (rda_cons (rd_op o2_ix (rd_var (i := 1)) (rd_var (i := 14))) rda_nil)) (rd_cb cal_len (rda_cons (rd_op o2_ix (rd_var (i := 1)) (rd_var (i := 8))) rda_nil)))) rd_int) (rd_lst rda_nil))) (rd_var (i := 8))))
      (rds_appO (i := 3) (rd_tup (rda_cons (rd_if (rdt_test (rd_op o2_eq (rd_var (i := 9)) (rd_lst rda_nil))) rd_int (rd_op o2_add (rd_op o2_ix (rd_var (i := 9)) rd_int) rd_int)) (rda_cons (rd_op o2_add (rd_var (i := 5)) rd_int) rda_nil))))))))
      (rds_seq (rds_for (rdi_range1 (rda_cons (rd_var (i := 0)) rda_nil)) (rdg_name (vs := [2]) (by decide)) (rds_seq (rds_set (rd_lc (rdj_of (rdi_enum (rda_cons (rd_var (i := 1)) rda_nil))) (rdg_two (vs := [5, 6]) (by decide) (by decide)) (rdt_test (rd_op o2_in (rd_var (i := 2)) (rd_var (i := 6)))) (rd_var (i := 5))))
      (rds_seq (rds_set (rd_lc (rdj_of (rdi_list (rd_var (i := 10)))) (rdg_name (vs := [5]) (by decide)) (rdt_test (rd_op o2_eq (rd_lc (rdj_of (rdi_list (rd_var (i := 10)))) (rdg_name (vs := [8]) (by decide)) (rdt_test (rd_op o2_cmp (rd_cb cal_len (rda_cons (rd_op o2_ix (rd_var (i := 1)) (rd_var (i := 8))) rda_nil)) (rd_cb cal_len (rda_cons (rd_op o2_ix (rd_var (i := 1)) (rd_var (i := 5))) rda_nil)))) rd_int) (rd_lst rda_nil))) (rd_var (i := 5))))
      (rds_appO (i := 4) (rd_if (rdt_test (rd_op o2_eq (rd_var (i := 11)) (rd_lst rda_nil))) rd_int (rd_op o2_add (rd_op o2_ix (rd_var (i := 11)) rd_int) rd_int))))))
      (rds_ret (rd_tup (rda_cons (rd_cb cal_tuple (rda_cons (rd_cb cal_sortT (rda_cons (rd_lc (rdj_own (i := 3)) (rdg_name (vs := [12]) (by decide)) rdt_yes (rd_tup (rda_cons (rd_cb cal_pair (rda_cons (rd_var (i := 12)) rda_nil)) (rda_cons (rd_cb cal_pair (rda_cons (rd_var (i := 12)) rda_nil)) rda_nil)))) rda_nil)) rda_nil)) (rda_cons (rd_tupO (i := 4)) rda_nil))))))), ?_⟩
  rintro ss n P ⟨many, ls, rfl, hm, f, p⟩
  walk_at "dl"
  have fl := f.ln
  have hll : (ls.map tupI).length = ls.length := List.length_map ..
  have lsh : ∀ i, i < ls.length → (lotN ls i).length ≤ 12 := fun i hi => by have := lotN_short f hi; omega
  have atl : ∀ {i : Nat}, i < ls.length → atD (ls.map tupI) (i : Int) = some (tupI (lotN ls i)) := fun h => at_nat (by rw [List.getElem?_map, (lotN_mem h).2]; rfl)
  refine ⟨fun i ρ n' => n' = n ∧ ∃ (u2 u5 u6 u7 u8 u9 u10 u11 u12 u13 u14 : SV), ρ = [.d (.int many), .d (.tup (ls.map tupI)), u2, .ol ((List.range i).map (parD ls)), .ol [], u5, u6, u7, u8, u9, u10, u11, u12, u13, u14], ⟨rfl, _, _, _, _, _, _, _, _, _, _, _, rfl⟩, ?_, ?_⟩
  · rintro i x ρ n' hx ⟨rfl, u2, u5, u6, u7, u8, u9, u10, u11, u12, u13, u14, rfl⟩
    rw [enumD_get, List.getElem?_map] at hx
    obtain ⟨w, hw, rfl⟩ := Option.map_eq_some_iff.mp hx
    obtain ⟨lot, hlot, rfl⟩ := Option.map_eq_some_iff.mp hw
    have hi : i < ls.length := (List.getElem?_eq_some_iff.mp hlot).1
    have elot : lot = lotN ls i := by
      have := (lotN_mem hi).2
      rw [hlot] at this
      exact Option.some.inj this
    subst elot
    clear hx hw
    show _
    walk_at "dl"
    rw [hll]
    have hlm : ((lotN ls i).map D.int).length ≤ 100000 := by rw [List.length_map]; have := lsh i hi; omega
    have eir : (rangeD 0 ((ls.length : Int)).toNat).length = ls.length := range_len
    refine ⟨by omega, by omega, fun j ρ n2 => n2 = n' ∧ ∃ (v8 v9 v10 v11 v12 v13 v14 : SV), ρ = [.d (.int many), .d (.tup (ls.map tupI)), u2, .ol ((List.range i).map (parD ls)), .ol [], .d (.int (i : Nat)), .d (tupI (lotN ls i)), .ol (((List.range j).filter (abvB ls i)).map natD), v8, v9, v10, v11, v12, v13, v14], ⟨rfl, _, _, _, _, _, _, _, rfl⟩, ?_, ?_⟩
    · rintro j x ρ n2 hx ⟨rfl, v8, v9, v10, v11, v12, v13, v14, rfl⟩
      obtain ⟨hj, rfl⟩ := range_get hx
      clear hx
      show _
      walk_at "dl"
      by_cases hji : j = i
      · subst hji
        have e : abvB ls j j = false := by unfold abvB; simp
        rw [show (!decide (((j : Nat) : Int) = ((j : Nat) : Int))) = false by simp]
        rw [range_filter_no e]
        exact ⟨_, _, _, _, _, _, _, rfl⟩
      · rw [show (!decide (((j : Nat) : Int) = ((i : Nat) : Int))) = true by simp; omega]
        refine ⟨hlm, compM_filter (f := fun x => if notInB (lotN ls j) x then some (.int 1) else none) (fun y hy n3 k q => ?_) (eq_ones ?_)⟩
        · obtain ⟨v, _, rfl⟩ := List.mem_map.mp hy
          refine ⟨_, atl hj, v, rfl, lotN ls j, rfl, ?_⟩
          rw [any_notIn]
          simp only [notInB] at q
          cases e : decide (v ∈ lotN ls j) <;> simp only [e] at q ⊢ <;> simpa using q
        · rw [notIn_all]
          cases e : subB (lotN ls i) (lotN ls j) with
          | true =>
            have e2 : abvB ls i j = true := by unfold abvB; rw [e]; simp [hji]
            rw [range_filter_yes e2, List.map_append]
            exact ⟨by rw [List.length_map]; have := List.length_filter_le (abvB ls i) (List.range j); rw [List.length_range] at this; omega, rfl, _, _, _, _, _, _, _, rfl⟩
          | false =>
            have e2 : abvB ls i j = false := by unfold abvB; rw [e]; simp
            rw [range_filter_no e2]
            exact ⟨rfl, _, _, _, _, _, _, _, rfl⟩
    · rintro ρ n2 ⟨rfl, v8, v9, v10, v11, v12, v13, v14, rfl⟩
      rw [eir]
      have eab : (List.range ls.length).filter (abvB ls i) = aboveN ls i := rfl
      rw [eab]
      have hbl : (aboveN ls i).length ≤ 21 := by
        have := List.length_filter_le (abvB ls i) (List.range ls.length)
        rw [List.length_range] at this
        rw [← eab]
        omega
      have habm : ∀ k ∈ aboveN ls i, k < ls.length := fun k hk => (aboveN_mem.mp hk).1
      show _ ∧ _
      have hpar : parN ls i = headN (leastN ls (aboveN ls i)) := rfl
      generalize aboveN ls i = ab at hbl habm hpar ⊢
      refine ⟨by rw [List.length_map]; omega, compM_filter (f := leastF ls ab) (fun y hy n3 k q => ?_) ?_⟩
      · obtain ⟨a, ha, rfl⟩ := List.mem_map.mp hy
        show _
        unfold natD
        walk_at "dl"
        refine ⟨by rw [List.length_map]; omega, compM_filter (f := fun x => if shortB ls a x then some (.int 1) else none) (fun z hz n4 k4 q4 => ?_) (eq_ones ?_)⟩
        · obtain ⟨b, hb, rfl⟩ := List.mem_map.mp hz
          refine ⟨_, atl (habm b hb), _, atl (habm a ha), ?_⟩
          have q5 : k4 (if decide ((lotN ls b).length < (lotN ls a).length) then some (.int 1) else none) n4 := q4
          show (match decide ((((lotN ls b).map D.int).length : Int) < (((lotN ls a).map D.int).length : Int)) with | true => k4 (some (D.int 1)) n4 | false => k4 none n4)
          rw [List.length_map, List.length_map, show decide (((lotN ls b).length : Int) < ((lotN ls a).length : Int)) = decide ((lotN ls b).length < (lotN ls a).length) from decide_eq_decide.mpr (by omega)]
          cases e : decide ((lotN ls b).length < (lotN ls a).length) <;> simp only [e] at q5 ⊢ <;> simpa using q5
        · have e0 : ((ab.map fun k : Nat => D.int ((k : Nat) : Int)).all fun x => !shortB ls a x) = leastB ls ab a := short_all
          rw [e0]
          have q5 : k (match leastB ls ab a with | true => some (.int ((a : Nat) : Int)) | false => none) n3 := q
          cases e : leastB ls ab a with
          | true =>
            rw [e] at q5
            exact q5
          | false =>
            rw [e] at q5
            exact q5
      · rw [leastF_map]
        walk_at "dl"
        have en : (ab.filter (leastB ls ab)).map natD = ((ab.filter (leastB ls ab)).map Int.ofNat).map D.int := by rw [List.map_map]; rfl
        have hps : (List.range (i + 1)).map (parD ls) = (List.range i).map (parD ls) ++ [parD ls i] := by rw [List.range_succ, List.map_append]; rfl
        have hpl : ((List.range i).map (parD ls)).length < 100000 := by rw [List.length_map, List.length_range]; omega
        rw [en]
        refine eq_ints ?_
        have hpar' : parN ls i = headN (ab.filter (leastB ls ab)) := hpar
        cases el : ab.filter (leastB ls ab) with
        | nil =>
          rw [el] at hpar'
          have e1 : parD ls i = .tup [.int 0, .int ((i : Int) + 1)] := by unfold parD; rw [hpar']; rfl
          rw [e1] at hps
          exact ⟨hpl, _, _, _, _, _, _, _, _, _, _, _, by rw [hps]⟩
        | cons j l =>
          rw [el] at hpar'
          have e1 : parD ls i = .tup [.int ((j : Int) + 1), .int ((i : Int) + 1)] := by unfold parD; rw [hpar']; rfl
          rw [e1] at hps
          refine ⟨.int (j : Int), at_zero, ?_⟩
          exact ⟨hpl, _, _, _, _, _, _, _, _, _, _, _, by rw [hps]⟩
  · rintro ρ n' ⟨rfl, u2, u5, u6, u7, u8, u9, u10, u11, u12, u13, u14, rfl⟩
    walk_at "dl"
    have een : (enumD 0 (ls.map tupI)).length = ls.length := by rw [enumD_len, hll]
    rw [een]
    have eir : (rangeD 0 ((many : Int)).toNat).length = many := range_len
    refine ⟨by omega, by omega, fun v ρ n2 => n2 = n' ∧ ∃ (v2 v5 v6 v7 v8 v9 v10 v11 v12 v13 v14 : SV), ρ = [.d (.int many), .d (.tup (ls.map tupI)), v2, .ol ((List.range ls.length).map (parD ls)), .ol ((List.range v).map (seatD ls)), v5, v6, v7, v8, v9, v10, v11, v12, v13, v14], ⟨rfl, _, _, _, _, _, _, _, _, _, _, _, rfl⟩, ?_, ?_⟩
    · rintro v x ρ n2 hx ⟨rfl, v2, v5, v6, v7, v8, v9, v10, v11, v12, v13, v14, rfl⟩
      obtain ⟨hv, rfl⟩ := range_get hx
      clear hx
      show _
      walk_at "dl"
      refine ⟨by rw [een]; omega, compM_filter (f := ownF (v : Int)) (fun y hy n3 k q => ?_) ?_⟩
      · obtain ⟨j, hj, rfl⟩ := enum_lots hy
        refine ⟨(v : Int), lotN ls j, rfl, rfl, ?_⟩
        have q5 : k (match decide ((v : Int) ∈ intsOf ((lotN ls j).map D.int)) with | true => some (.int ((j : Nat) : Int)) | false => none) n3 := q
        rw [intsOf_map] at q5
        rw [show ((lotN ls j).any fun z => z == (v : Int)) = decide ((v : Int) ∈ lotN ls j) from any_in]
        cases e : decide ((v : Int) ∈ lotN ls j) with
        | true =>
          rw [e] at q5
          exact q5
        | false =>
          rw [e] at q5
          exact q5
      · rw [ownF_map]
        have hseat : seatN ls (Int.ofNat v) = headN (leastN ls (ownN ls (v : Int))) := rfl
        have hbl : (ownN ls (v : Int)).length ≤ 21 := by
          have := List.length_filter_le (fun i => decide ((v : Int) ∈ lotN ls i)) (List.range ls.length)
          rw [List.length_range] at this
          unfold ownN
          omega
        have habm : ∀ k ∈ ownN ls (v : Int), k < ls.length := fun k hk => (ownN_mem.mp hk).1
        generalize ownN ls (v : Int) = ab at hbl habm hseat ⊢
        show _ ∧ _
        refine ⟨by rw [List.length_map]; omega, compM_filter (f := leastF ls ab) (fun y hy n3 k q => ?_) ?_⟩
        · obtain ⟨a, ha, rfl⟩ := List.mem_map.mp hy
          show _
          unfold natD
          walk_at "dl"
          refine ⟨by rw [List.length_map]; omega, compM_filter (f := fun x => if shortB ls a x then some (.int 1) else none) (fun z hz n4 k4 q4 => ?_) (eq_ones ?_)⟩
          · obtain ⟨b, hb, rfl⟩ := List.mem_map.mp hz
            refine ⟨_, atl (habm b hb), _, atl (habm a ha), ?_⟩
            have q5 : k4 (if decide ((lotN ls b).length < (lotN ls a).length) then some (.int 1) else none) n4 := q4
            show (match decide ((((lotN ls b).map D.int).length : Int) < (((lotN ls a).map D.int).length : Int)) with | true => k4 (some (D.int 1)) n4 | false => k4 none n4)
            rw [List.length_map, List.length_map, show decide (((lotN ls b).length : Int) < ((lotN ls a).length : Int)) = decide ((lotN ls b).length < (lotN ls a).length) from decide_eq_decide.mpr (by omega)]
            cases e : decide ((lotN ls b).length < (lotN ls a).length) <;> simp only [e] at q5 ⊢ <;> simpa using q5
          · have e0 : ((ab.map fun k : Nat => D.int ((k : Nat) : Int)).all fun x => !shortB ls a x) = leastB ls ab a := short_all
            rw [e0]
            have q5 : k (match leastB ls ab a with | true => some (.int ((a : Nat) : Int)) | false => none) n3 := q
            cases e : leastB ls ab a with
            | true =>
              rw [e] at q5
              exact q5
            | false =>
              rw [e] at q5
              exact q5
        · rw [leastF_map]
          walk_at "dl"
          have en : (ab.filter (leastB ls ab)).map natD = ((ab.filter (leastB ls ab)).map Int.ofNat).map D.int := by rw [List.map_map]; rfl
          have hps : (List.range (v + 1)).map (seatD ls) = (List.range v).map (seatD ls) ++ [seatD ls v] := by rw [List.range_succ, List.map_append]; rfl
          have hpl : ((List.range v).map (seatD ls)).length < 100000 := by rw [List.length_map, List.length_range]; omega
          rw [en]
          refine eq_ints ?_
          have hpar' : seatN ls (Int.ofNat v) = headN (ab.filter (leastB ls ab)) := hseat
          cases el : ab.filter (leastB ls ab) with
          | nil =>
            rw [el] at hpar'
            have e1 : seatD ls v = .int 0 := by unfold seatD; rw [hpar']; rfl
            rw [e1] at hps
            exact ⟨hpl, _, _, _, _, _, _, _, _, _, _, _, by rw [hps]⟩
          | cons j l =>
            rw [el] at hpar'
            have e1 : seatD ls v = .int ((j : Int) + 1) := by unfold seatD; rw [hpar']; rfl
            rw [e1] at hps
            refine ⟨.int (j : Int), at_zero, ?_⟩
            exact ⟨hpl, _, _, _, _, _, _, _, _, _, _, _, by rw [hps]⟩
    · rintro ρ n2 ⟨rfl, v2, v5, v6, v7, v8, v9, v10, v11, v12, v13, v14, rfl⟩
      rw [eir]
      walk_at "dl"
      refine ⟨by rw [List.length_map, List.length_range]; omega, compM_map (f := mmF) (fun x hx n3 k q => ?_) ?_⟩
      · obtain ⟨i, _, rfl⟩ := List.mem_map.mp hx
        exact q
      · refine ⟨rawT ls, by unfold rawT; rw [List.map_map, List.map_map]; exact List.map_congr_left fun i _ => mmF_at, hd_ok fun l hl => ?_, ?_⟩
        · obtain ⟨i, _, rfl⟩ := List.mem_map.mp hl
          unfold tieL
          simp
        · have es : (List.range many).map (seatD ls) = (seatsN ls many).map D.int := by unfold seatsN; rw [List.map_map]; rfl
          have et : (sortL (rawT ls)).map tupI = (sortT ls).map pairI := by
            unfold sortT
            rw [List.map_map]
            refine List.map_congr_left fun l hl => ?_
            obtain ⟨i, _, rfl⟩ := List.mem_map.mp ((sortL_perm _).mem_iff.mp hl)
            rfl
          rw [es, et]
          exact p _ (norm_sort f)


abbrev s_tie_of : Stmt := topS 22
theorem sc_tie_of : FnScope ["one", "other"] ["one", "other"] (defScope s_tie_of) := ⟨rfl, rfl, rfl, by decide +kernel, rfl, by decide +kernel, by decide +kernel⟩
theorem ok_tie_of (T : Txt K mg cs tk0) (D : DefAt K mg "tie_of" s_tie_of ["one", "other"]) : Has P w K mg base CX0 1 "tie_of" ["one", "other"] (sp0 K TT ds_tie_of) := by
  obtain ⟨f, fd, F, hm, hk, hb⟩ := D
  refine ⟨f, fd, F.okD sc_tie_of (len_tie_of) (fun S cdv A outer s H E hr => ?_), hm, hk, hb⟩
  refine ⟨_, _, (pss_one (ps_ret (pe_tup (pa_cons (pe_callB (call_rMin2 rfl) (by rfl) T.n_min (by decide +kernel) (pa_cons (pv 0) (pa_cons (pv 1) pa_nil))) (pa_cons (pe_callB (call_rMax2 rfl) (by rfl) T.n_max (by decide +kernel) (pa_cons (pv 0) (pa_cons (pv 1) pa_nil))) pa_nil))))),
    (rds_ret (rd_tup (rda_cons (rd_cb cal_min2 (rda_cons (rd_var (i := 0)) (rda_cons (rd_var (i := 1)) rda_nil))) (rda_cons (rd_cb cal_max2 (rda_cons (rd_var (i := 0)) (rda_cons (rd_var (i := 1)) rda_nil))) rda_nil)))), ?_⟩
  rintro ss n P ⟨a, b, rfl, p⟩
  walk_at "dl"
  have e1 : (if b < a then b else a) = min a b := by split <;> omega
  have e2 : (if b > a then b else a) = max a b := by split <;> omega
  rw [e1, e2]
  exact p

abbrev s_inmost : Stmt := topS 26
theorem sc_inmost : FnScope ["lots", "valley", "size", "around", "index", "lot"] ["lots", "valley", "size"] (defScope s_inmost) := ⟨rfl, rfl, rfl, by decide +kernel, rfl, by decide +kernel, by decide +kernel⟩
theorem ok_inmost (T : Txt K mg cs tk0) (D : DefAt K mg "_inmost" s_inmost ["lots", "valley", "size"]) : Has P w K mg base CX0 1 "_inmost" ["lots", "valley", "size"] (sp0 K TT ds_inmost) := by
  obtain ⟨f, fd, F, hm, hk, hb⟩ := D
  refine ⟨f, fd, F.okD sc_inmost (len_inmost) (fun S cdv A outer s H E hr => ?_), hm, hk, hb⟩
  refine ⟨_, _, (pss_cons (ps_setLc (i := 3) (own := [("index", 4), ("lot", 5)]) (g := gTup _ 2 (gCons (gName 4) (gCons (gName 5) gNil))) rfl sc_inmost.nd rfl rfl (sw_true rfl rfl rfl (by decide +kernel)) (RZ.pi_enumA (by rfl) T.n_enumerate (pa_cons (pv 0) pa_nil)) (blkOk_by (N := ["lots", "valley", "size", "around", "index", "lot"]) (own := [("index", 4), ("lot", 5)]) (sc := defScope s_inmost) (by decide +kernel)) (fun _ _ _ _ _ => (pg_tup rfl (pgs_cons (pg_name (i := 4) sc_inmost.nd rfl (by first | exact Or.inl rfl | exact Or.inr rfl)) (pgs_cons (pg_name (i := 5) sc_inmost.nd rfl (by first | exact Or.inl rfl | exact Or.inr rfl)) pgs_nil)))) (fun _ _ _ _ _ => (pts_one (PW.pt (pw_and (pt_cmpR op_in_seq (pv 1) (pv 5) (by with_unfolding_all rfl)) (pw_and1 (pt_cmpR op_gt (pe_callB call_lenU (by rfl) T.n_len (by decide +kernel) (pa_cons (pv 5) pa_nil)) (pv 2) (nomark _))))))) (fun _ _ _ _ _ => (pe_tup (pa_cons (pe_callB call_lenU (by rfl) T.n_len (by decide +kernel) (pa_cons (pv 5) pa_nil)) (pa_cons (pe_op op_addU (pv 4) pe_int) pa_nil)))))
      (pss_one (ps_ret (pe_ix ix_seq (pe_callBK (SCo.cr_minDef hr) (by rfl) T.n_min (by decide +kernel) (pa_cons (pv 3) pa_nil) (pk_cons (pe_tup (pa_cons pe_int (pa_cons pe_int pa_nil))) pk_nil)) pe_int (fun _ _ => rfl))))),
    (rds_seq (rds_set (rd_lc (rdj_of (rdi_enum (rda_cons (rd_var (i := 0)) rda_nil))) (rdg_two (vs := [4, 5]) (by decide) (by decide)) (rdt_and (rdt_test (rd_op o2_in (rd_var (i := 1)) (rd_var (i := 5)))) (rdt_test (rd_op o2_cmp (rd_cb cal_len (rda_cons (rd_var (i := 5)) rda_nil)) (rd_var (i := 2))))) (rd_tup (rda_cons (rd_cb cal_len (rda_cons (rd_var (i := 5)) rda_nil)) (rda_cons (rd_op o2_add (rd_var (i := 4)) rd_int) rda_nil)))))
      (rds_ret (rd_op o2_ix (rd_minDef (rd_var (i := 3)) (rd_tup (rda_cons rd_int (rda_cons rd_int rda_nil)))) rd_int))), ?_⟩
  rintro ss n P ⟨many, ls, v, size, rfl, hm, f, p⟩
  walk_at "dl"
  have een : (enumD 0 (ls.map tupI)).length = ls.length := by rw [enumD_len, List.length_map]
  have fl := f.ln
  refine ⟨by rw [een]; omega, compM_filter (f := arF v size) (fun y hy n3 k q => ?_) ?_⟩
  · obtain ⟨j, hj, rfl⟩ := enum_lots hy
    refine ⟨v, lotN ls j, rfl, rfl, ?_⟩
    rw [arF_at] at q
    rw [show ((lotN ls j).any fun z => z == v) = decide (v ∈ lotN ls j) from any_in]
    cases e : decide (v ∈ lotN ls j) with
    | false => rw [e] at q; exact q
    | true =>
      rw [e, Bool.true_and] at q
      show (match decide ((size : Int) < (((lotN ls j).map D.int).length : Int)) with | true => _ | false => _ : Prop)
      rw [show decide ((size : Int) < (((lotN ls j).map D.int).length : Int)) = decide (size < (lotN ls j).length) by rw [List.length_map, decide_eq_decide]; omega]
      cases e3 : decide (size < (lotN ls j).length) with
      | false => rw [e3] at q; exact q
      | true =>
        rw [e3, if_pos rfl] at q
        show k (some (.tup [.int (((lotN ls j).map D.int).length : Int), .int ((j : Int) + 1)])) n3
        rw [List.length_map]
        exact q
  · rw [arF_map]
    obtain ⟨mm, em⟩ := min_around f (v := v) (size := size)
    refine ⟨(aroundN ls v size).map (prN ls), rfl, ?_⟩
    rw [em]
    exact ⟨_, at_nat (j := 1) rfl, p⟩

abbrev s_tree_of : Stmt := topS 25
theorem sc_tree_of : FnScope ["many", "lots", "ties", "seats", "valley", "index", "lot"] ["many", "lots"] (defScope s_tree_of) := ⟨rfl, rfl, rfl, by decide +kernel, rfl, by decide +kernel, by decide +kernel⟩
theorem ok_tree_of (T : Txt K mg cs tk0) (D : DefAt K mg "tree_of" s_tree_of ["many", "lots"]) (c_are_partings : Has P w K mg base (L2.CX P w) 4 "are_partings" ["many", "thing"] (spX K TT (ds_are_partings cs))) (c_tie_of : Has P w K mg base CX0 1 "tie_of" ["one", "other"] (sp0 K TT ds_tie_of)) (c_inmost : Has P w K mg base CX0 1 "_inmost" ["lots", "valley", "size"] (sp0 K TT ds_inmost)) (c_Tree : HasI P w K mg base 5 cs.Tree "ties" "seats" (spI K TT cs.Tree (ds_Tree_init cs))) : Has P w K mg base (L2.CX P w) 7 "tree_of" ["many", "lots"] (spX K TT (ds_tree_of cs)) := by
  obtain ⟨f, fd, F, hm, hk, hb⟩ := D
  obtain ⟨_, _, c_are_partings_ok, c_are_partings_m, c_are_partings_k, c_are_partings_b⟩ := c_are_partings
  obtain ⟨_, _, c_tie_of_ok, c_tie_of_m, c_tie_of_k, c_tie_of_b⟩ := c_tie_of
  obtain ⟨_, _, c_inmost_ok, c_inmost_m, c_inmost_k, c_inmost_b⟩ := c_inmost
  obtain ⟨_, _, c_Tree_ok, c_Tree_mk, c_Tree_b, c_Tree_kb⟩ := c_Tree
  refine ⟨f, fd, F.okXD sc_tree_of (len_tree_of cs) (fun S cdv A outer s H E hr => ?_), hm, hk, hb⟩
  have tk := takes_of (X := cxOf (L2.CX P w) P w K mg base ["many", "lots", "ties", "seats", "valley", "index", "lot"] "tree_of" (defScope s_tree_of) f cdv A outer s H E) (E := E) rfl rfl rfl rfl
  refine ⟨_, _, (pss_cons (ps_if (pt_not (pt_val (pe_call c_are_partings_ok (hr.mono (by decide)) rfl c_are_partings_m c_are_partings_k c_are_partings_b .nil (passes_call tk (fun _ _ _ _ h => h)) (pa_cons (pv 0) (pa_cons (pv 1) pa_nil))))) (pss_one (ps_raise (W := fun cls d _ H => E cls d H) rfl tk (pmk_own PySem.F.excBase_ValueError T.x_BadPartings T.g_BadPartings T.e_BadPartings (raises_own T.b_BadPartings T.t_BadPartings) rfl))) pss_nil)
      (pss_cons (ps_setLc (i := 2) (own := [("index", 5), ("lot", 6)]) (g := gTup _ 2 (gCons (gName 5) (gCons (gName 6) gNil))) rfl sc_tree_of.nd rfl rfl (sw_true rfl rfl rfl (by decide +kernel)) (RZ.pi_enumA (by rfl) T.n_enumerate (pa_cons (pv 1) pa_nil)) (blkOk_by (N := ["many", "lots", "ties", "seats", "valley", "index", "lot"]) (own := [("index", 5), ("lot", 6)]) (sc := defScope s_tree_of) (by decide +kernel)) (fun _ _ _ _ _ => (pg_tup rfl (pgs_cons (pg_name (i := 5) sc_tree_of.nd rfl (by first | exact Or.inl rfl | exact Or.inr rfl)) (pgs_cons (pg_name (i := 6) sc_tree_of.nd rfl (by first | exact Or.inl rfl | exact Or.inr rfl)) pgs_nil)))) (fun _ _ _ _ _ => pts_nil) (fun _ _ _ _ _ => (pe_call c_tie_of_ok (hr.mono (by decide)) rfl c_tie_of_m c_tie_of_k c_tie_of_b .nil pass0 (pa_cons (pe_call c_inmost_ok (hr.mono (by decide)) rfl c_inmost_m c_inmost_k c_inmost_b .nil pass0 (pa_cons (pv 1) (pa_cons (pe_ix ix_seq (pv 6) pe_int (fun _ _ => rfl)) (pa_cons (pe_callB call_lenU (by rfl) T.n_len (by decide +kernel) (pa_cons (pv 6) pa_nil)) pa_nil)))) (pa_cons (pe_op op_addU (pv 5) pe_int) pa_nil)))))
      (pss_cons (ps_setLc (i := 3) (own := [("valley", 4)]) (g := gName 4) rfl sc_tree_of.nd rfl rfl (sw_true rfl rfl rfl (by decide +kernel)) (pi_range1 (by rfl) T.n_range (pa_cons (pv 0) pa_nil)) (blkOk_by (N := ["many", "lots", "ties", "seats", "valley", "index", "lot"]) (own := [("valley", 4)]) (sc := defScope s_tree_of) (by decide +kernel)) (fun _ _ _ _ _ => (pg_name (i := 4) sc_tree_of.nd rfl (by first | exact Or.inl rfl | exact Or.inr rfl))) (fun _ _ _ _ _ => pts_nil) (fun _ _ _ _ _ => (pe_call c_inmost_ok (hr.mono (by decide)) rfl c_inmost_m c_inmost_k c_inmost_b .nil pass0 (pa_cons (pv 1) (pa_cons (pv 4) (pa_cons pe_int pa_nil))))))
      (pss_one (ps_ret (pe_make c_Tree_mk c_Tree_ok (hr.mono (by decide)) rfl T.g_Tree c_Tree_b .nil (passes_call tk (fun _ _ _ _ h => h)) (pa_cons (pe_callTy call_tupU (by rfl) T.n_tuple (by decide +kernel) (pa_cons (pe_callB (SCo.cr_sortT hr) (by rfl) T.n_sorted (by decide +kernel) (pa_cons (pv 2) pa_nil)) pa_nil)) (pa_cons (pe_callTy call_tupU (by rfl) T.n_tuple (by decide +kernel) (pa_cons (pv 3) pa_nil)) pa_nil)))))))),
    (rds_seq (rds_if (rdt_not (rdt_B (rd_callX (rda_cons (rd_var (i := 0)) (rda_cons (rd_var (i := 1)) rda_nil))))) rds_raise rds_next)
      (rds_seq (rds_set (rd_lc (rdj_of (rdi_enum (rda_cons (rd_var (i := 1)) rda_nil))) (rdg_two (vs := [5, 6]) (by decide) (by decide)) rdt_yes (rd_call0 (E := E0) (rda_cons (rd_call0 (E := E0) (rda_cons (rd_var (i := 1)) (rda_cons (rd_op o2_ix (rd_var (i := 6)) rd_int) (rda_cons (rd_cb cal_len (rda_cons (rd_var (i := 6)) rda_nil)) rda_nil)))) (rda_cons (rd_op o2_add (rd_var (i := 5)) rd_int) rda_nil)))))
      (rds_seq (rds_set (rd_lc (rdj_of (rdi_range1 (rda_cons (rd_var (i := 0)) rda_nil))) (rdg_name (vs := [4]) (by decide)) rdt_yes (rd_call0 (E := E0) (rda_cons (rd_var (i := 1)) (rda_cons (rd_var (i := 4)) (rda_cons rd_int rda_nil))))))
      (rds_ret (rd_make (rda_cons (rd_cb cal_tuple (rda_cons (rd_cb cal_sortT (rda_cons (rd_var (i := 2)) rda_nil)) rda_nil)) (rda_cons (rd_cb cal_tuple (rda_cons (rd_var (i := 3)) rda_nil)) rda_nil))))))), ?_⟩
  rintro ss n P XP ⟨m, d, rfl, xm, xd, sd, p0, p1⟩
  walk_at "dl"
  refine ⟨m, d, rfl, xm, xd, sd, p0, fun k ek k12 => ?_⟩
  subst ek
  obtain ⟨many, rfl⟩ := Int.eq_ofNat_of_zero_le (show 0 ≤ k by omega)
  rcases p1 many rfl (by omega) (by omega) with ⟨e, p⟩ | ⟨ls, rfl, f, hr, p⟩
  · rw [show partsB (many : Int) d = false from e]
    exact p
  rw [fam_parts f hr]
  have fl := f.ln
  have een : (enumD 0 (ls.map tupI)).length = ls.length := by rw [enumD_len, List.length_map]
  refine ⟨by rw [een]; omega, compM_map (f := tieF ls) (fun x hx n2 k q => ?_) ?_⟩
  · obtain ⟨i, hi, rfl⟩ := enum_lots hx
    obtain ⟨v, rest, ev⟩ : ∃ v rest, lotN ls i = v :: rest := List.exists_cons_of_ne_nil (f.ne _ (lotN_mem hi).1)
    have q2 : k (some (tupI (tieL ls i))) n2 := q
    refine ⟨.int v, by rw [ev]; exact at_nat (j := 0) rfl, ?_⟩
    show ds_inmost [.d (.tup (ls.map tupI)), .d (.int v), .d (.int (((lotN ls i).map D.int).length : Int))] n2 _
    rw [List.length_map]
    refine ⟨many, ls, v, (lotN ls i).length, rfl, by omega, f, ?_⟩
    rw [around_par f hi (by rw [ev]; exact List.mem_cons_self)]
    show ds_tie_of [.d (.int ((parN ls i : Nat) : Int)), .d (.int ((i : Int) + 1))] n2 _
    refine ⟨_, _, rfl, ?_⟩
    rw [show tupI [min ((parN ls i : Nat) : Int) ((i : Int) + 1), max ((parN ls i : Nat) : Int) ((i : Int) + 1)] = tupI (tieL ls i) from tie_par]
    exact q2
  · rw [tieF_map]
    show _ ∧ _
    have eir : (rangeD 0 ((many : Int)).toNat).length = many := range_len
    refine ⟨by omega, by omega, by rw [eir]; omega, compM_map (f := stF ls) (fun x hx n2 k q => ?_) ?_⟩
    · obtain ⟨v, hv, rfl⟩ := range_mem hx
      refine ⟨many, ls, (v : Int), 0, rfl, by omega, f, ?_⟩
      rw [around_own f]
      exact q
    · refine ⟨rawT ls, rfl, hd_ok fun l hl => ?_, T.ic_Tree, ?_⟩
      · obtain ⟨i, _, rfl⟩ := List.mem_map.mp hl
        unfold tieL
        simp
      · rw [stF_map, sortT_pair]
        have nt := norm_sort f
        show ds_Tree_init cs [.d (.tup ((sortT ls).map pairI)), .d (tupI (seatsN ls many))] n _ _
        exact ⟨sortT ls, seatsN ls many, rfl, norm_ties f nt, norm_seats f (by omega) (by omega) nt, p _ nt⟩

abbrev s_law_is_normal : Stmt := topS 41
theorem sc_law_is_normal : FnScope ["thing", "many", "some"] ["thing", "many", "some"] (defScope s_law_is_normal) := ⟨rfl, rfl, rfl, by decide +kernel, rfl, by decide +kernel, by decide +kernel⟩
theorem ok_law_is_normal (T : Txt K mg cs tk0) (D : DefAt K mg "_law_is_normal" s_law_is_normal ["thing", "many", "some"]) (c_law_normal : Has P w K mg base CX0 1 "_law_normal" ["many", "some"] (sp0 K TT ds_law_normal)) : HasG P w K mg base CX0 2 "_law_is_normal" ["thing", "many", "some"] (sp0 K TT (ds_law_is_normal cs)) := by
  obtain ⟨f, fd, F, hm, hk, hb⟩ := D
  obtain ⟨_, _, c_law_normal_ok, c_law_normal_m, c_law_normal_k, c_law_normal_b⟩ := c_law_normal
  refine ⟨f, fd, fnG_okD F sc_law_is_normal (len_law_is_normal cs) (fun S cdv A outer s H E hg hr => ?_), hm, hk, hb⟩
  refine ⟨_, _, (pss_cons (ps_if (pt_not (pt_val (pe_callB call_isD (by rfl) T.n_isinstance (by decide +kernel) (pa_cons (pv 0) (pa_cons (pe_glob (v := .ref cs.Tree) rfl T.g_Tree rfl) pa_nil))))) (pss_one (ps_ret pe_bl)) pss_nil)
      (pss_one (ps_ret (pe_cmpR (op_eqU hr.units) (pe_callB (call_repr hg hr.units) (by rfl) T.n_repr (by decide +kernel) (pa_cons (pe_tup (pa_cons (pe_fld (pv 0) rfl) (pa_cons (pe_fld (pv 0) rfl) pa_nil))) pa_nil)) (pe_callB (call_repr hg hr.units) (by rfl) T.n_repr (by decide +kernel) (pa_cons (pe_call c_law_normal_ok (hr.mono (by decide)) rfl c_law_normal_m c_law_normal_k c_law_normal_b .nil pass0 (pa_cons (pv 1) (pa_cons (pv 2) pa_nil))) pa_nil)) (nomark _))))),
    (rds_seq (rds_if (rdt_not (rdt_B (rd_is (.own _) (rd_var (i := 0))))) (rds_ret rd_bl) rds_next)
      (rds_ret (rd_op o2_eq (rd_cb cal_repr (rda_cons (rd_tup (rda_cons (rd_fld (rd_var (i := 0))) (rda_cons (rd_fld (rd_var (i := 0))) rda_nil))) rda_nil)) (rd_cb cal_repr (rda_cons (rd_call0 (E := E0) (rda_cons (rd_var (i := 1)) (rda_cons (rd_var (i := 2)) rda_nil))) rda_nil))))), ?_⟩
  rintro ss n P ⟨ts, m, ls, rfl, m1, m2, f, nt, p⟩
  walk_at "dl"
  refine ⟨trivial, true, T.i_Tree, T.na_Tree_ties, _, rfl, T.na_Tree_seats, _, rfl, ?_⟩
  have t := norm_ties f nt
  have k := norm_seats f m1 m2 nt
  obtain ⟨q, e, ok⟩ := tree_repr t k
  refine ⟨q, e, ok, ?_⟩
  show ds_law_normal _ _ _
  refine ⟨m, ls, rfl, m2, f, fun ts2 nt2 => ?_⟩
  have et : ts2 = ts := norm_same nt2 nt
  subst et
  refine ⟨q, e, ok, ?_⟩
  show eqP id (.str _) (.str _) _
  rw [eqP_str]
  simp only [id, decide_true]
  exact p

abbrev s_law_every_partings : Stmt := topS 39
theorem sc_law_every_partings : FnScope ["many", "lots", "valley_here", "found", "lot", "some", "other"] ["many"] (defScope s_law_every_partings) := ⟨rfl, rfl, rfl, by decide +kernel, rfl, by decide +kernel, by decide +kernel⟩
theorem ok_law_every_partings (T : Txt K mg cs tk0) (D : DefAt K mg "_law_every_partings" s_law_every_partings ["many"]) (c_law_crosses : Has P w K mg base CX0 1 "_law_crosses" ["one", "other"] (sp0 K TT ds_law_crosses)) : Has P w K mg base CX0 2 "_law_every_partings" ["many"] (sp0 K TT ds_law_every_partings) := by
  obtain ⟨f, fd, F, hm, hk, hb⟩ := D
  obtain ⟨_, _, c_law_crosses_ok, c_law_crosses_m, c_law_crosses_k, c_law_crosses_b⟩ := c_law_crosses
  refine ⟨f, fd, F.okD sc_law_every_partings (len_law_every_partings) (fun S cdv A outer s H E hr => ?_), hm, hk, hb⟩
  refine ⟨_, _, (pss_cons (ps_set (i := 1) sc_law_every_partings.nd rfl (by first | exact Or.inl rfl | exact Or.inr rfl) (pe_lst (pa_cons (pe_tup pa_nil) pa_nil)))
      (pss_cons (ps_for PassesOwn.never rfl (pi_range2 (by rfl) T.n_range (pa_cons pe_int (pa_cons (pv 0) pa_nil))) (pg_name (i := 2) sc_law_every_partings.nd rfl (by first | exact Or.inl rfl | exact Or.inr rfl)) (pss_one (ps_set (i := 1) sc_law_every_partings.nd rfl (by first | exact Or.inl rfl | exact Or.inr rfl) (pe_op SCo.op_catL (pv 1) (pe_lc (own := [("lot", 4)]) (g := gName 4) rfl sc_law_every_partings.nd (pi_list (pv 1)) (blkOk_by (N := ["many", "lots", "valley_here", "found", "lot", "some", "other"]) (own := [("lot", 4)]) (sc := defScope s_law_every_partings) (by decide +kernel)) (fun _ _ _ _ _ => (pg_name (i := 4) sc_law_every_partings.nd rfl (by first | exact Or.inl rfl | exact Or.inr rfl))) (fun _ _ _ _ _ => pts_nil) (fun _ _ _ _ _ => (pe_op op_addU (pv 4) (pe_tup (pa_cons (pv 2) pa_nil)))))))))
      (pss_cons (ps_set (i := 3) sc_law_every_partings.nd rfl (by first | exact Or.inl rfl | exact Or.inr rfl) (pe_lst (pa_cons (pe_tup pa_nil) pa_nil)))
      (pss_cons (ps_for PassesOwn.never rfl (pi_list (pe_slice sl_U (pe_callB (SCo.cr_sortP hr) (by rfl) T.n_sorted (by decide +kernel) (pa_cons (pv 1) pa_nil)) (po_some pe_int) po_none)) (pg_name (i := 4) sc_law_every_partings.nd rfl (by first | exact Or.inl rfl | exact Or.inr rfl)) (pss_one (ps_set (i := 3) sc_law_every_partings.nd rfl (by first | exact Or.inl rfl | exact Or.inr rfl) (pe_op SCo.op_catL (pv 3) (pe_lc (own := [("some", 5)]) (g := gName 5) rfl sc_law_every_partings.nd (pi_list (pv 3)) (blkOk_by (N := ["many", "lots", "valley_here", "found", "lot", "some", "other"]) (own := [("some", 5)]) (sc := defScope s_law_every_partings) (by decide +kernel)) (fun _ _ _ _ _ => (pg_name (i := 5) sc_law_every_partings.nd rfl (by first | exact Or.inl rfl | exact Or.inr rfl))) (fun _ _ _ _ _ => (pts_one (pt_cmpR (op_eqU hr.units) (pe_lc (own := [("other", 6)]) (g := gName 6) rfl sc_law_every_partings.nd (pi_tup (pv 5)) (blkOk_by (N := ["many", "lots", "valley_here", "found", "lot", "some", "other"]) (own := [("other", 6)]) (by rfl)) (fun _ _ _ _ _ => (pg_name (i := 6) sc_law_every_partings.nd rfl (by first | exact Or.inl rfl | exact Or.inr rfl))) (fun _ _ _ _ _ => (pts_one (pt_val (pe_call c_law_crosses_ok (hr.mono (by decide)) rfl c_law_crosses_m c_law_crosses_k c_law_crosses_b .nil pass0 (pa_cons (pv 6) (pa_cons (pv 4) pa_nil)))))) (fun _ _ _ _ _ => pe_int)) (pe_lst pa_nil) (nomark _)))) (fun _ _ _ _ _ => (pe_op op_addU (pv 5) (pe_tup (pa_cons (pv 4) pa_nil)))))))))
      (pss_one (ps_ret (pe_callB (SCo.cr_sortP hr) (by rfl) T.n_sorted (by decide +kernel) (pa_cons (pv 3) pa_nil)))))))),
    (rds_seq (rds_set (rd_lst (rda_cons (rd_tup rda_nil) rda_nil)))
      (rds_seq (rds_for (rdi_range2 (rda_cons rd_int (rda_cons (rd_var (i := 0)) rda_nil))) (rdg_name (vs := [2]) (by decide)) (rds_set (rd_op o2_addL (rd_var (i := 1)) (rd_lc (rdj_of (rdi_list (rd_var (i := 1)))) (rdg_name (vs := [4]) (by decide)) rdt_yes (rd_op o2_add (rd_var (i := 4)) (rd_tup (rda_cons (rd_var (i := 2)) rda_nil)))))))
      (rds_seq (rds_set (rd_lst (rda_cons (rd_tup rda_nil) rda_nil)))
      (rds_seq (rds_for (rdi_list (rd_sl (rd_cb cal_sortP (rda_cons (rd_var (i := 1)) rda_nil)) (rdo_some rd_int) rdo_none)) (rdg_name (vs := [4]) (by decide)) (rds_set (rd_op o2_addL (rd_var (i := 3)) (rd_lc (rdj_of (rdi_list (rd_var (i := 3)))) (rdg_name (vs := [5]) (by decide)) (rdt_test (rd_op o2_eq (rd_lc (rdj_of (rdi_tup (rd_var (i := 5)))) (rdg_name (vs := [6]) (by decide)) (rdt_B (rd_call0 (E := E0) (rda_cons (rd_var (i := 6)) (rda_cons (rd_var (i := 4)) rda_nil)))) rd_int) (rd_lst rda_nil))) (rd_op o2_add (rd_var (i := 5)) (rd_tup (rda_cons (rd_var (i := 4)) rda_nil)))))))
      (rds_ret (rd_cb cal_sortP (rda_cons (rd_var (i := 3)) rda_nil))))))), ?_⟩
  rintro ss n P ⟨m, rfl, m1, m5, p⟩
  walk_at "dl"
  refine ⟨⟨by omega, by omega, by omega, by omega⟩, fun i ρ n' => n' = n ∧ ∃ (u2 u3 u4 u5 u6 : SV), ρ = [.d (.int (m : Int)), .d (.lst ((lotsE i).map tupI)), u2, u3, u4, u5, u6] ∧ (lotsE i).length = 2 ^ i, ⟨rfl, _, _, _, _, _, rfl, rfl⟩, ?_, ?_⟩
  · rintro i x ρ n' hx ⟨rfl, u2, u3, u4, u5, u6, rfl, ll⟩
    obtain ⟨hi, rfl⟩ := rangeA_get hx
    have hp : 2 ^ i ≤ 2 ^ 4 := Nat.pow_le_pow_right (by omega) (by omega)
    have l2 : (lotsS (lotsE i) ((i : Int) + 1)).length = 2 ^ (i + 1) := by
      unfold lotsS
      rw [List.length_append, List.length_map, ll, Nat.pow_succ]
      omega
    walk_at "dl"
    refine ⟨by rw [List.length_map]; omega, compM_map (f := snocF (.int ((i : Int) + 1))) (fun x hx n2 k q => ?_) ?_⟩
    · obtain ⟨l, hl, rfl⟩ := List.mem_map.mp hx
      refine ⟨?_, q⟩
      show (l.map D.int).length + 1 ≤ _
      rw [List.length_map]
      have := lotsE_short i l hl
      omega
    · refine ⟨by rw [List.length_map, List.length_map, List.length_map, ll]; omega, ?_⟩
      rw [snoc_lots, ← lotsE_succ]
      rw [← lotsE_succ] at l2
      exact ⟨rfl, _, _, _, _, _, rfl, l2⟩
  · rintro ρ n' ⟨hn, u2, u3, u4, u5, u6, rfl, ll⟩
    subst hn
    rw [rangeA_len] at ll ⊢
    have em : ((m : Int) - 1).toNat = m - 1 := by omega
    rw [em]
    walk_at "dl"
    refine sort_tups ?_
    rw [every_lots m1 m5]
    have ec : cutD (([] :: lotsL m).map tupI) (some 1) none = (lotsL m).map tupI := cut_from_one
    show ∃ I, _
    rw [ec]
    clear ll em
    refine ⟨fun i ρ n9 => n9 = n' ∧ ∃ (u2 u4 u5 u6 : SV), ρ = [.d (.int (m : Int)), .d (.lst ((lotsE (m - 1)).map tupI)), u2, .d (.lst ((famsE ((lotsL m).take i)).map tt)), u4, u5, u6], ⟨rfl, _, _, _, _, rfl⟩, ?_, ?_⟩
    · rintro i x ρ n9 hx ⟨hn9, u2, u4, u5, u6, rfl⟩
      subst hn9
      rw [List.getElem?_map] at hx
      obtain ⟨l, hl, rfl⟩ := Option.map_eq_some_iff.mp hx
      have lm := lotsL_mem (List.mem_of_getElem? hl)
      have et : (lotsL m).take (i + 1) = (lotsL m).take i ++ [l] := by
        rw [List.take_add_one, hl]
        rfl
      have fb := famsE_bound (m := m) i
      have fb2 := famsE_bound (m := m) (i + 1)
      walk_at "dl"
      refine ⟨by rw [List.length_map]; omega, compM_filter (f := okD l) (fun x hx n2 k q => ?_) ?_⟩
      · obtain ⟨f, hf, rfl⟩ := List.mem_map.mp hx
        have fs := (famsE_sub _ f hf).1.trans (List.take_sublist ..)
        have fl := fs.length_le
        have ll := lotsL_len (m := m)
        show _ ∧ _
        refine ⟨by rw [List.length_map]; omega, compM_filter (f := oneD l) (fun x hx n2 k q => ?_) ?_⟩
        · obtain ⟨o, ho, rfl⟩ := List.mem_map.mp hx
          have om := lotsL_mem (fs.subset ho)
          refine ⟨o, l, rfl, by omega, by omega, ?_⟩
          unfold oneD crD at q
          rw [intsD_tup] at q
          cases e : crossB o l with
          | true => rw [e] at q; exact q
          | false => rw [e] at q; exact q
        · rw [onesc_map]
          refine eqP_intsL (b := []) ?_
          rw [onesc_nil]
          rw [okD_tt] at q
          cases e : okF f l with
          | true =>
            rw [e, if_pos rfl] at q
            refine ⟨by rw [List.length_map]; show _ + 1 ≤ _; omega, ?_⟩
            unfold tt at q
            rw [List.map_append] at q
            exact q
          | false =>
            rw [e, if_neg (by decide)] at q
            exact q
      · have e : ((famsE ((lotsL m).take i)).map tt).length + (((famsE ((lotsL m).take i)).map tt).filterMap (okD l)).length = (famsE ((lotsL m).take (i + 1))).length := by
          rw [← List.length_append, famS_map, List.length_map, et, famsE_snoc]
        have ee : (famsE ((lotsL m).take i)).map tt ++ ((famsE ((lotsL m).take i)).map tt).filterMap (okD l) = (famsE ((lotsL m).take (i + 1))).map tt := by rw [famS_map, et, famsE_snoc]
        refine ⟨by omega, ?_⟩
        rw [ee]
        exact ⟨rfl, _, _, _, _, rfl⟩
    · rintro ρ n9 ⟨hn9, u2, u4, u5, u6, rfl⟩
      subst hn9
      walk_at "dl"
      refine sort_tts ?_
      rw [List.length_map, List.take_length]
      exact p

abbrev s_trees : Stmt := topS 30
theorem sc_trees : FnScope ["many", "families", "family"] ["many", "families"] (defScope s_trees) := ⟨rfl, rfl, rfl, by decide +kernel, rfl, by decide +kernel, by decide +kernel⟩
theorem ok_trees (T : Txt K mg cs tk0) (D : DefAt K mg "_trees" s_trees ["many", "families"]) (c_tree_of : Has P w K mg base (L2.CX P w) 7 "tree_of" ["many", "lots"] (spX K TT (ds_tree_of cs))) : Has P w K mg base (L2.CX P w) 8 "_trees" ["many", "families"] (spO K TT (ds_trees cs)) := by
  obtain ⟨f, fd, F, hm, hk, hb⟩ := D
  obtain ⟨_, _, c_tree_of_ok, c_tree_of_m, c_tree_of_k, c_tree_of_b⟩ := c_tree_of
  refine ⟨f, fd, F.okXO sc_trees (len_trees cs) (fun S cdv A outer s H E hr => ?_), hm, hk, hb⟩
  have tk := takes_of (X := cxOf (L2.CX P w) P w K mg base ["many", "families", "family"] "_trees" (defScope s_trees) f cdv A outer s H E) (E := E) rfl rfl rfl rfl
  refine ⟨_, _, (pss_one (ps_ret (pe_lc (own := [("family", 2)]) (g := gName 2) rfl sc_trees.nd (pi_list (pv 1)) (blkOk_by (N := ["many", "families", "family"]) (own := [("family", 2)]) (sc := defScope s_trees) (by decide +kernel)) (fun _ _ _ _ _ => (pg_name (i := 2) sc_trees.nd rfl (by first | exact Or.inl rfl | exact Or.inr rfl))) (fun _ _ _ _ _ => pts_nil) (fun _ _ _ _ _ => (pe_call c_tree_of_ok (hr.mono (by decide)) rfl c_tree_of_m c_tree_of_k c_tree_of_b .nil passL (pa_cons (pv 0) (pa_cons (pv 2) pa_nil))))))),
    (rdso_ret (rdn_lc (rdj_of (rdi_list (rd_var (i := 1)))) (rdg_name (vs := [2]) (by decide)) rdt_yes (rd_callN (rda_cons (rd_var (i := 0)) (rda_cons (rd_var (i := 2)) rda_nil))))), ?_⟩
  rintro ss n P XP ⟨m, rfl, m1, m5, p⟩
  walk_at "dl"
  have hb := famL_bound (m := m)
  have e : (famL m).map (treeOf cs m) = ((famL m).map tt).map (treeD' cs m) := by
    rw [List.map_map]
    refine List.map_congr_left fun f _ => ?_
    show _ = treeD' cs m (tt f)
    rw [treeD'_tt]
  rw [e] at p
  refine ⟨by rw [List.length_map]; omega, compM_map (f := treeD' cs m) (fun x hx n2 k q => ?_) p⟩
  obtain ⟨f, hf, rfl⟩ := List.mem_map.mp hx
  rw [treeD'_tt] at q
  obtain ⟨fm, fr⟩ := famL_fam m1 m5 hf
  have zoo := fam_zoo fm
  have inb : betw 1 12 (.int (m : Int)) = true := by simp only [betw, Bool.and_eq_true, decide_eq_true_eq]; omega
  refine ⟨_, _, rfl, rfl, zoo.1, zoo.2 (by omega), (fun z => by rw [inb] at z; cases z), fun k hk k1 k12 => .inr ⟨f, rfl, ?_⟩⟩
  have e : (m : Int) = (k : Int) := D.int.inj hk
  obtain rfl : m = k := by omega
  exact ⟨fm, fr, fun ts nt => by rw [norm_same nt (norm_sort fm)]; exact q⟩

abbrev s_partings : Stmt := topS 31
theorem sc_partings : FnScope ["many", "valleys", "size", "lot"] ["many"] (defScope s_partings) := ⟨rfl, rfl, rfl, by decide +kernel, rfl, by decide +kernel, by decide +kernel⟩
theorem ok_partings (T : Txt K mg cs tk0) (D : DefAt K mg "_partings" s_partings ["many"]) : Has P w K mg base CX0 1 "_partings" ["many"] (sp0 K TT ds_partings) := by
  obtain ⟨f, fd, F, hm, hk, hb⟩ := D
  refine ⟨f, fd, F.okD sc_partings (len_partings) (fun S cdv A outer s H E hr => ?_), hm, hk, hb⟩
  refine ⟨_, _, (pss_cons (ps_set (i := 1) sc_partings.nd rfl (by first | exact Or.inl rfl | exact Or.inr rfl) (pe_listRg rfl (by rfl) T.n_list (prg_2 (by rfl) T.n_range pe_int (pv 0))))
      (pss_one (ps_ret (pe_callB (SCo.cr_sortP hr) (by rfl) T.n_sorted (by decide +kernel) (pa_cons (pe_lc2 (own := [("size", 2), ("lot", 3)]) (vs1 := [3]) (g := gName 2) (g1 := gName 3) rfl sc_partings.nd (pi_range2 (by rfl) T.n_range (pa_cons pe_int (pa_cons (pv 0) pa_nil))) (blkOk_by (N := ["many", "valleys", "size", "lot"]) (own := [("size", 2), ("lot", 3)]) (sc := defScope s_partings) (by decide +kernel)) (by decide) (fun _ _ _ _ _ => (pg_name (i := 2) sc_partings.nd rfl (by first | exact Or.inl rfl | exact Or.inr rfl))) (fun _ _ _ _ _ => pts_nil) (fun _ _ _ _ _ => (RZ.pi_combN (by rfl) T.m_combinations (pa_cons (pv 1) (pa_cons (pv 2) pa_nil)))) (fun _ _ _ _ _ => (pg_name (i := 3) sc_partings.nd rfl (by first | exact Or.inl rfl | exact Or.inr rfl))) (fun _ _ _ _ _ => pts_nil) (fun _ _ _ _ _ => (pv 3))) pa_nil))))),
    (rds_seq (rds_set (rd_listRg2 rd_int (rd_var (i := 0))))
      (rds_ret (rd_cb cal_sortP (rda_cons (rd_lc2 (rdj_of (rdi_range2 (rda_cons rd_int (rda_cons (rd_var (i := 0)) rda_nil)))) (rdg_name (vs := [2, 3]) (by decide)) (rdi_combN (rda_cons (rd_var (i := 1)) (rda_cons (rd_var (i := 2)) rda_nil))) (rdg_name (vs := [3]) (by decide)) rdt_yes (rd_var (i := 3))) rda_nil)))), ?_⟩
  rintro ss n P ⟨m, rfl, m1, m5, p⟩
  walk_at "dl"
  have e : (rangeD 1 ((m : Int) - 1).toNat).flatMap (combF (rgI 1 m)) = ((List.range (m - 1)).flatMap fun k => combsL (k + 1) (rgI 1 m)).map tupI := by
    rcases five m1 m5 with rfl | rfl | rfl | rfl | rfl <;> rfl
  refine ⟨1, rfl, (m : Int), rfl, by omega, by omega, by omega, by omega, ⟨by omega, by omega, by omega, by omega⟩, by rw [rangeA_len]; omega, compL_map (f := combF (rgI 1 m)) (fun x hx n2 k q => ?_) ?_⟩
  · obtain ⟨i, hi, rfl⟩ : ∃ i : Nat, i < 5 ∧ x = .int ((i : Int) + 1) := by
      obtain ⟨i, hi⟩ := List.mem_iff_getElem?.mp hx
      obtain ⟨h1, h2⟩ := rangeA_get hi
      exact ⟨i, by omega, h2⟩
    refine ⟨rfl, ?_⟩
    show _ ∧ _ ∧ _ ∧ _
    have e2 : ((i : Int) + 1).toNat = i + 1 := by omega
    have q : k (combT ((i : Int) + 1).toNat ((rgI 1 m).map D.int)) n2 := q
    rw [e2] at q ⊢
    refine ⟨by omega, by omega, combs_small m (by omega) i hi, compM_map (f := fun x => x) (fun x hx n3 k3 q3 => q3) ?_⟩
    rw [List.map_id']
    exact q
  · rw [e]
    refine sort_tups ?_
    rw [combs_lots m1 m5]
    exact p

abbrev s_families : Stmt := topS 32
theorem sc_families : FnScope ["many", "found", "lot", "family", "other"] ["many"] (defScope s_families) := ⟨rfl, rfl, rfl, by decide +kernel, rfl, by decide +kernel, by decide +kernel⟩
theorem ok_families (T : Txt K mg cs tk0) (D : DefAt K mg "_families" s_families ["many"]) (c_partings : Has P w K mg base CX0 1 "_partings" ["many"] (sp0 K TT ds_partings)) (c_do_cross : Has P w K mg base CX0 1 "do_cross" ["one", "other"] (sp0 K TT ds_do_cross)) : Has P w K mg base CX0 2 "_families" ["many"] (sp0 K TT ds_families) := by
  obtain ⟨f, fd, F, hm, hk, hb⟩ := D
  obtain ⟨_, _, c_partings_ok, c_partings_m, c_partings_k, c_partings_b⟩ := c_partings
  obtain ⟨_, _, c_do_cross_ok, c_do_cross_m, c_do_cross_k, c_do_cross_b⟩ := c_do_cross
  refine ⟨f, fd, F.okD sc_families (len_families) (fun S cdv A outer s H E hr => ?_), hm, hk, hb⟩
  refine ⟨_, _, (pss_cons (ps_set (i := 1) sc_families.nd rfl (by first | exact Or.inl rfl | exact Or.inr rfl) (pe_lst (pa_cons (pe_tup pa_nil) pa_nil)))
      (pss_cons (ps_for PassesOwn.never rfl (pi_list (pe_call c_partings_ok (hr.mono (by decide)) rfl c_partings_m c_partings_k c_partings_b .nil pass0 (pa_cons (pv 0) pa_nil))) (pg_name (i := 2) sc_families.nd rfl (by first | exact Or.inl rfl | exact Or.inr rfl)) (pss_one (ps_set (i := 1) sc_families.nd rfl (by first | exact Or.inl rfl | exact Or.inr rfl) (pe_op SCo.op_catL (pv 1) (pe_lc (own := [("family", 3)]) (g := gName 3) rfl sc_families.nd (pi_list (pv 1)) (blkOk_by (N := ["many", "found", "lot", "family", "other"]) (own := [("family", 3)]) (sc := defScope s_families) (by decide +kernel)) (fun _ _ _ _ _ => (pg_name (i := 3) sc_families.nd rfl (by first | exact Or.inl rfl | exact Or.inr rfl))) (fun _ _ _ _ _ => (pts_one (pt_not (pt_val (pe_callB (cr_any rfl) (by rfl) T.n_any (by decide +kernel) (pa_cons (pe_lc (own := [("other", 4)]) (g := gName 4) rfl sc_families.nd (pi_tup (pv 3)) (blkOk_by (N := ["many", "found", "lot", "family", "other"]) (own := [("other", 4)]) (by rfl)) (fun _ _ _ _ _ => (pg_name (i := 4) sc_families.nd rfl (by first | exact Or.inl rfl | exact Or.inr rfl))) (fun _ _ _ _ _ => pts_nil) (fun _ _ _ _ _ => (pe_call c_do_cross_ok (hr.mono (by decide)) rfl c_do_cross_m c_do_cross_k c_do_cross_b .nil pass0 (pa_cons (pv 2) (pa_cons (pv 4) pa_nil))))) pa_nil)))))) (fun _ _ _ _ _ => (pe_op op_addU (pv 3) (pe_tup (pa_cons (pv 2) pa_nil)))))))))
      (pss_one (ps_ret (pe_callB (SCo.cr_sortP hr) (by rfl) T.n_sorted (by decide +kernel) (pa_cons (pv 1) pa_nil)))))),
    (rds_seq (rds_set (rd_lst (rda_cons (rd_tup rda_nil) rda_nil)))
      (rds_seq (rds_for (rdi_list (rd_call0 (E := E0) (rda_cons (rd_var (i := 0)) rda_nil))) (rdg_name (vs := [2]) (by decide)) (rds_set (rd_op o2_addL (rd_var (i := 1)) (rd_lc (rdj_of (rdi_list (rd_var (i := 1)))) (rdg_name (vs := [3]) (by decide)) (rdt_not (rdt_B (rd_cb cal_any (rda_cons (rd_lc (rdj_of (rdi_tup (rd_var (i := 3)))) (rdg_name (vs := [4]) (by decide)) rdt_yes (rd_call0 (E := E0) (rda_cons (rd_var (i := 2)) (rda_cons (rd_var (i := 4)) rda_nil)))) rda_nil)))) (rd_op o2_add (rd_var (i := 3)) (rd_tup (rda_cons (rd_var (i := 2)) rda_nil)))))))
      (rds_ret (rd_cb cal_sortP (rda_cons (rd_var (i := 1)) rda_nil))))), ?_⟩
  rintro ss n P ⟨m, rfl, m1, m5, p⟩
  walk_at "dl"
  refine ⟨m, rfl, m1, m5, ?_⟩
  show ∃ I, _
  refine ⟨fun i ρ n' => n' = n ∧ ∃ (u2 u3 u4 : SV), ρ = [.d (.int (m : Int)), .d (.lst ((famsE ((lotsL m).take i)).map tt)), u2, u3, u4], ⟨rfl, _, _, _, rfl⟩, ?_, ?_⟩
  · rintro i x ρ n' hx ⟨rfl, u2, u3, u4, rfl⟩
    rw [List.getElem?_map] at hx
    obtain ⟨l, hl, rfl⟩ := Option.map_eq_some_iff.mp hx
    have lm := lotsL_mem (List.mem_of_getElem? hl)
    have et : (lotsL m).take (i + 1) = (lotsL m).take i ++ [l] := by
      rw [List.take_add_one, hl]
      rfl
    have fb := famsE_bound (m := m) i
    have fb2 := famsE_bound (m := m) (i + 1)
    walk_at "dl"
    refine ⟨by rw [List.length_map]; omega, compM_filter (f := okD l) (fun x hx n2 k q => ?_) ?_⟩
    · obtain ⟨f, hf, rfl⟩ := List.mem_map.mp hx
      have fs := (famsE_sub _ f hf).1.trans (List.take_sublist ..)
      have fl := fs.length_le
      have ll := lotsL_len (m := m)
      show _ ∧ _
      refine ⟨by rw [List.length_map]; omega, compM_map (f := fun x => .bl (crD l x)) (fun x hx n2 k q => ?_) (anyD_map ?_)⟩
      · obtain ⟨o, ho, rfl⟩ := List.mem_map.mp hx
        have om := lotsL_mem (fs.subset ho)
        refine ⟨l, o, rfl, by omega, by omega, ?_⟩
        have q : k (some (.bl (crossB (intsD (tupI o)) l))) n2 := q
        rw [intsD_tup, crossB_sym om.2.2.1 lm.2.2.1] at q
        exact q
      · show (match !((f.map tupI).any (crD l)) with | true => _ | false => _ : Prop)
        rw [crs_any]
        rw [okD_tt] at q
        cases e : okF f l with
        | true =>
          rw [e, if_pos rfl] at q
          refine ⟨by rw [List.length_map]; show _ + 1 ≤ _; omega, ?_⟩
          unfold tt at q
          rw [List.map_append] at q
          exact q
        | false =>
          rw [e, if_neg (by decide)] at q
          exact q
    · have e : ((famsE ((lotsL m).take i)).map tt).length + (((famsE ((lotsL m).take i)).map tt).filterMap (okD l)).length = (famsE ((lotsL m).take (i + 1))).length := by
        rw [← List.length_append, famS_map, List.length_map, et, famsE_snoc]
      have ee : (famsE ((lotsL m).take i)).map tt ++ ((famsE ((lotsL m).take i)).map tt).filterMap (okD l) = (famsE ((lotsL m).take (i + 1))).map tt := by rw [famS_map, et, famsE_snoc]
      refine ⟨by omega, ?_⟩
      rw [ee]
      exact ⟨rfl, _, _, _, rfl⟩
  · rintro ρ n' ⟨rfl, u2, u3, u4, rfl⟩
    walk_at "dl"
    refine sort_tts ?_
    rw [List.length_map, List.take_length]
    exact p

theorem sc_all_trees : FnScope ["many"] ["many"] (defScope s_all_trees) := ⟨rfl, rfl, rfl, by decide +kernel, rfl, by decide +kernel, by decide +kernel⟩
theorem ok_all_trees (T : Txt K mg cs tk0) (D : DefAt K mg "all_trees" s_all_trees ["many"]) (c_is_between : Has P w K mg base CX0 2 "is_between" ["thing", "low", "high"] (sp0 K TT ds_is_between)) (c_trees : Has P w K mg base (L2.CX P w) 8 "_trees" ["many", "families"] (spO K TT (ds_trees cs))) (c_families : Has P w K mg base CX0 2 "_families" ["many"] (sp0 K TT ds_families)) : HasF P w K mg base (L2.CX P w) 9 "all_trees" s_all_trees ["many"] (spO K TT (ds_all_trees cs)) := by
  obtain ⟨f, fd, F, hm, hk, hb⟩ := D
  obtain ⟨_, _, c_is_between_ok, c_is_between_m, c_is_between_k, c_is_between_b⟩ := c_is_between
  obtain ⟨_, _, c_trees_ok, c_trees_m, c_trees_k, c_trees_b⟩ := c_trees
  obtain ⟨_, _, c_families_ok, c_families_m, c_families_k, c_families_b⟩ := c_families
  refine ⟨f, fd, F.okXO sc_all_trees (len_all_trees cs) (fun S cdv A outer s H E hr => ?_), hm, hk, hb, F⟩
  have tk := takes_of (X := cxOf (L2.CX P w) P w K mg base ["many"] "all_trees" (defScope s_all_trees) f cdv A outer s H E) (E := E) rfl rfl rfl rfl
  refine ⟨_, _, (pss_cons (ps_if (pt_not (pt_val (pe_call c_is_between_ok (hr.mono (by decide)) rfl c_is_between_m c_is_between_k c_is_between_b .nil pass0 (pa_cons (pv 0) (pa_cons pe_int (pa_cons (pe_glob (v := .int 5) rfl T.k_MOST_LISTED.2 ⟨_, rfl⟩) pa_nil)))))) (pss_one (ps_raise (W := fun cls d _ H => E cls d H) rfl tk (pmk_own PySem.F.excBase_ValueError T.x_BadMany T.g_BadMany T.e_BadMany (raises_own T.b_BadMany T.t_BadMany) rfl))) pss_nil)
      (pss_one (ps_ret (pe_call c_trees_ok (hr.mono (by decide)) rfl c_trees_m c_trees_k c_trees_b .nil (passes_call tk (fun _ _ _ _ h => h)) (pa_cons (pv 0) (pa_cons (pe_call c_families_ok (hr.mono (by decide)) rfl c_families_m c_families_k c_families_b .nil pass0 (pa_cons (pv 0) pa_nil)) pa_nil)))))),
    (rdso_seq (rds_if (rdt_not (rdt_B (rd_call0 (E := E0) (rda_cons (rd_var (i := 0)) (rda_cons rd_int (rda_cons rd_int rda_nil)))))) rds_raise rds_next)
      (rdso_ret (rdn_callO (rda_cons (rd_var (i := 0)) (rda_cons (rd_call0 (E := E0) (rda_cons (rd_var (i := 0)) rda_nil)) rda_nil))))), ?_⟩
  rintro ss n P XP ⟨d, rfl, hx, h⟩
  walk_at "dl"
  refine ⟨d, 1, 5, rfl, bare_of hx, ?_⟩
  rcases h with ⟨hb, p⟩ | ⟨m, rfl, m1, m5, p⟩
  · rw [hb]
    exact p
  · have inb : betw 1 5 (.int (m : Int)) = true := by simp only [betw, Bool.and_eq_true, decide_eq_true_eq]; omega
    rw [inb]
    exact ⟨m, rfl, m1, m5, m, rfl, m1, m5, p⟩

abbrev s_law : Stmt := topS 42
theorem sc_law : FnScope ["script", "state", "lap", "many_here", "due", "told_here", "spots_here", "spot", "again", "bad", "turn"] ["script"] (defScope s_law) := ⟨rfl, rfl, rfl, by decide +kernel, rfl, by decide +kernel, by decide +kernel⟩
theorem ok_law {f c9 : Addr} {fd : FuncData} (T : Txt K mg cs tk0) (F : FunC K "law" "law" s_law f fd c9) (c_law_begun : Has P w K mg base CX0 1 "_law_begun" ["script"] (spBegun K)) (c_law_pick : Has P w K mg base CX0 2 "_law_pick" ["state", "several"] (sp0 K TT ds_law_pick)) (c_law_every_partings : Has P w K mg base CX0 2 "_law_every_partings" ["many"] (sp0 K TT ds_law_every_partings)) (c_law_draw : Has P w K mg base CX0 1 "_law_draw" ["state", "size_here"] (sp0 K TT ds_law_draw)) (c_all_trees : HasF P w K mg base (L2.CX P w) 9 "all_trees" s_all_trees ["many"] (spO K TT (ds_all_trees cs))) (c_law_is_normal : HasG P w K mg base CX0 2 "_law_is_normal" ["thing", "many", "some"] (sp0 K TT (ds_law_is_normal cs))) (DC : DefAt K mg "_law_caught" s_law_caught ["work"]) (MA : MakesAt base mg TT "law.<locals>.<lambda>" c9) : FnG P w K mg base CX0 13 f fd ["script"] (spLaw K TT) := by
  obtain ⟨_, _, c_law_begun_ok, c_law_begun_m, c_law_begun_k, c_law_begun_b⟩ := c_law_begun
  obtain ⟨_, _, c_law_pick_ok, c_law_pick_m, c_law_pick_k, c_law_pick_b⟩ := c_law_pick
  obtain ⟨_, _, c_law_every_partings_ok, c_law_every_partings_m, c_law_every_partings_k, c_law_every_partings_b⟩ := c_law_every_partings
  obtain ⟨_, _, c_law_draw_ok, c_law_draw_m, c_law_draw_k, c_law_draw_b⟩ := c_law_draw
  obtain ⟨_, _, c_all_trees_ok, c_all_trees_m, c_all_trees_k, c_all_trees_b, c_all_trees_F⟩ := c_all_trees
  obtain ⟨_, _, c_law_is_normal_ok, c_law_is_normal_m, c_law_is_normal_k, c_law_is_normal_b⟩ := c_law_is_normal
  obtain ⟨oc, od, kV, doc, pm, an, ct, osl, rfl, lk, hcd⟩ := F.ex
  refine ⟨fun vs H Q E h => by obtain ⟨a, ns, rfl, _⟩ := h; rfl, fun A hg hr0 outer s H args us vs Q E h r b e => LamX.run_ofS lk hcd sc_law hr0 e b r (by obtain ⟨a, ns, rfl, _⟩ := h; rfl) fun hr => ?_⟩
  obtain ⟨a, ns, rfl, hS, hl, tabs, q⟩ := h
  refine ⟨_, PSs.nox (X := cxOf CX0 P w K mg base ["script", "state", "lap", "many_here", "due", "told_here", "spots_here", "spot", "again", "bad", "turn"] "law" (defScope s_law) f (.ref c9) A outer s H E) ((pss_cons (ps_set (i := 1) sc_law.nd rfl (by first | exact Or.inl rfl | exact Or.inr rfl) (pe_call c_law_begun_ok (hr.mono (by decide)) rfl c_law_begun_m c_law_begun_k c_law_begun_b .nil pass0 (pa_cons (pv 0) pa_nil)))
      (pss_cons (ps_for PassesOwn.never rfl (pi_range1 (by rfl) T.n_range (pa_cons pe_int pa_nil)) (pg_name (i := 2) sc_law.nd rfl (by first | exact Or.inl rfl | exact Or.inr rfl)) (pss_cons (ps_set (i := 3) sc_law.nd rfl (by first | exact Or.inl rfl | exact Or.inr rfl) (pe_call c_law_pick_ok (hr.mono (by decide)) rfl c_law_pick_m c_law_pick_k c_law_pick_b .nil pass0 (pa_cons (pv 1) (pa_cons (pe_ix ix_seq (pe_lst (pa_cons (pe_lst (pa_cons pe_int (pa_cons pe_int (pa_cons pe_int (pa_cons pe_int pa_nil))))) (pa_cons (pe_lst (pa_cons pe_int (pa_cons pe_int (pa_cons pe_int (pa_cons pe_int pa_nil))))) pa_nil))) (pv 2) (fun _ _ => rfl)) pa_nil))))
      (pss_cons (ps_set (i := 4) sc_law.nd rfl (by first | exact Or.inl rfl | exact Or.inr rfl) (pe_call c_law_every_partings_ok (hr.mono (by decide)) rfl c_law_every_partings_m c_law_every_partings_k c_law_every_partings_b .nil pass0 (pa_cons (pv 3) pa_nil)))
      (pss_cons (ps_set (i := 5) sc_law.nd rfl (by first | exact Or.inl rfl | exact Or.inr rfl) (pe_ifExp (pt_cmpR (op_eqU hr.units) (pe_call c_law_draw_ok (hr.mono (by decide)) rfl c_law_draw_m c_law_draw_k c_law_draw_b .nil pass0 (pa_cons (pv 1) (pa_cons pe_int pa_nil))) pe_int (nomark _)) (pe_call c_all_trees_ok (hr.mono (by decide)) rfl c_all_trees_m c_all_trees_k c_all_trees_b .nil passL (pa_cons (pv 3) pa_nil)) (pe_callN0 c_all_trees_ok (hr.mono (by decide)) rfl c_all_trees_m c_all_trees_k (kbn_of (n := 0) (ks := ["many"]) (ix := [0]) c_all_trees_F (fun _ _ _ _ _ _ us ws h1 h2 => match us, ws, h1, h2 with | [], [_], _, _ => rfl)) passL (pk_cons (pv 3) pk_nil))))
      (pss_cons (ps_if (PW.pt (pw_or (pt_cmpR (op_neU hr.units) (pe_callB call_lenU (by rfl) T.n_len (by decide +kernel) (pa_cons (pv 4) pa_nil)) (pe_ix ix_seq (pe_lst (pa_cons pe_int (pa_cons pe_int (pa_cons pe_int (pa_cons pe_int (pa_cons pe_int pa_nil)))))) (pe_op op_sub (pv 3) pe_int) (fun _ _ => rfl)) (nomark _)) (pw_or1 (pt_not (pt_val (pe_callB call_isD (by rfl) T.n_isinstance (by decide +kernel) (pa_cons (pv 5) (pa_cons (pe_bltn rfl T.n_list (by decide +kernel) (v := .ty "list") rfl) pa_nil)))))))) (pss_one (ps_ret pe_bl)) pss_nil)
      (pss_cons (ps_if (pt_cmpR (op_neU hr.units) (pe_callB call_lenU (by rfl) T.n_len (by decide +kernel) (pa_cons (pv 5) pa_nil)) (pe_callB call_lenU (by rfl) T.n_len (by decide +kernel) (pa_cons (pv 4) pa_nil)) (nomark _)) (pss_one (ps_ret pe_bl)) pss_nil)
      (pss_cons (ps_set (i := 6) sc_law.nd rfl (by first | exact Or.inl rfl | exact Or.inr rfl) (RZ.pe_listRng (by rfl) T.n_list (by rfl) T.n_range (pa_cons (pe_callB call_lenU (by rfl) T.n_len (by decide +kernel) (pa_cons (pv 4) pa_nil)) pa_nil)))
      (pss_cons (ps_if (PW.pt (pw_and (pt_cmpR (op_eqU hr.units) (pv 3) pe_int (nomark _)) (pw_and1 (pt_cmpR op_gt (pe_call c_law_draw_ok (hr.mono (by decide)) rfl c_law_draw_m c_law_draw_k c_law_draw_b .nil pass0 (pa_cons (pv 1) (pa_cons pe_int pa_nil))) pe_int (nomark _))))) (pss_one (ps_set (i := 6) sc_law.nd rfl (by first | exact Or.inl rfl | exact Or.inr rfl) (pe_op SCo.op_catL (pe_lst (pa_cons pe_int (pa_cons (pe_op op_sub (pe_callB call_lenU (by rfl) T.n_len (by decide +kernel) (pa_cons (pv 4) pa_nil)) pe_int) pa_nil))) (pe_lc (own := [("turn", 10)]) (g := gName 10) rfl sc_law.nd (pi_range1 (by rfl) T.n_range (pa_cons pe_int pa_nil)) (blkOk_by (N := ["script", "state", "lap", "many_here", "due", "told_here", "spots_here", "spot", "again", "bad", "turn"]) (own := [("turn", 10)]) (sc := defScope s_law) (by decide +kernel)) (fun _ _ _ _ _ => (pg_name (i := 10) sc_law.nd rfl (by first | exact Or.inl rfl | exact Or.inr rfl))) (fun _ _ _ _ _ => pts_nil) (fun _ _ _ _ _ => (pe_call c_law_draw_ok (hr.mono (by decide)) rfl c_law_draw_m c_law_draw_k c_law_draw_b .nil pass0 (pa_cons (pv 1) (pa_cons (pe_callB call_lenU (by rfl) T.n_len (by decide +kernel) (pa_cons (pv 4) pa_nil)) pa_nil)))))))) pss_nil)
      (pss_cons (ps_for PassesOwn.never rfl (pi_list (pv 6)) (pg_name (i := 7) sc_law.nd rfl (by first | exact Or.inl rfl | exact Or.inr rfl)) (pss_one (ps_if (pt_not (pt_val (pe_callG c_law_is_normal_ok hg (hr.mono (by decide)) rfl c_law_is_normal_m c_law_is_normal_k c_law_is_normal_b .nil pass0 (pa_cons (pe_ix ix_seq (pv 5) (pv 7) (fun _ _ => rfl)) (pa_cons (pv 3) (pa_cons (pe_ix ix_seq (pv 4) (pv 7) (fun _ _ => rfl)) pa_nil)))))) (pss_one (ps_ret pe_bl)) pss_nil)))
      (pss_cons (ps_expr (pe_bm PySem.F.plainAttrs_list PySem.F.slot_list_pop PySem.F.type_list_pop mt_popAt (pv 5) (pa_cons (pe_call c_law_draw_ok (hr.mono (by decide)) rfl c_law_draw_m c_law_draw_k c_law_draw_b .nil pass0 (pa_cons (pv 1) (pa_cons (pe_callB call_lenU (by rfl) T.n_len (by decide +kernel) (pa_cons (pv 5) pa_nil)) pa_nil))) pa_nil)))
      (pss_cons (ps_expr (pe_bm PySem.F.plainAttrs_list PySem.F.slot_list_append PySem.F.type_list_append mt_append (pv 5) (pa_cons pe_non pa_nil)))
      (pss_cons (ps_set (i := 8) sc_law.nd rfl (by first | exact Or.inl rfl | exact Or.inr rfl) (pe_call c_all_trees_ok (hr.mono (by decide)) rfl c_all_trees_m c_all_trees_k c_all_trees_b .nil passL (pa_cons (pv 3) pa_nil)))
      (pss_cons (ps_set (i := 7) sc_law.nd rfl (by first | exact Or.inl rfl | exact Or.inr rfl) (pe_call c_law_pick_ok (hr.mono (by decide)) rfl c_law_pick_m c_law_pick_k c_law_pick_b .nil pass0 (pa_cons (pv 1) (pa_cons (pv 6) pa_nil))))
      (pss_cons (ps_if (PW.pt (pw_or (pt_cmpR (op_neU hr.units) (pe_callB call_lenU (by rfl) T.n_len (by decide +kernel) (pa_cons (pv 8) pa_nil)) (pe_callB call_lenU (by rfl) T.n_len (by decide +kernel) (pa_cons (pv 4) pa_nil)) (nomark _)) (pw_or1 (pt_not (pt_val (pe_callG c_law_is_normal_ok hg (hr.mono (by decide)) rfl c_law_is_normal_m c_law_is_normal_k c_law_is_normal_b .nil pass0 (pa_cons (pe_ix ix_seq (pv 8) (pv 7) (fun _ _ => rfl)) (pa_cons (pv 3) (pa_cons (pe_ix ix_seq (pv 4) (pv 7) (fun _ _ => rfl)) pa_nil))))))))) (pss_one (ps_ret pe_bl)) pss_nil)
      (pss_cons (ps_set (i := 9) sc_law.nd rfl (by first | exact Or.inl rfl | exact Or.inr rfl) (pe_call c_law_pick_ok (hr.mono (by decide)) rfl c_law_pick_m c_law_pick_k c_law_pick_b .nil pass0 (pa_cons (pv 1) (pa_cons (pe_lst (pa_cons pe_int (pa_cons pe_int (pa_cons (pe_un un_neg pe_int) (pa_cons pe_non (pa_cons pe_bl (pa_cons pe_bl (pa_cons pe_str (pa_cons (pe_tup (pa_cons pe_int pa_nil)) (pa_cons pe_int (pa_cons (pe_op op_pow pe_int pe_int) (pa_cons (pe_lst (pa_cons pe_int pa_nil)) pa_nil)))))))))))) pa_nil))))
      (pss_one (ps_if (pt_not (pt_val (pe_callB call_isD (by rfl) T.n_isinstance (by decide +kernel) (pa_cons (lam_call (k := 10) DC sc_law_caught (fun g cdg => caught_gives rfl T.g_FoundError rfl rfl rfl) MA rfl (hr.mono (by decide)) (LamX.lamS_by (sc := defScope s_law) (by decide +kernel)) rfl rfl (fun _ _ _ _ _ => rfl) (fun A9 outer9 s9 H9 E9 f9 c9 hr => (pe_call c_all_trees_ok (hr.mono (by decide)) rfl c_all_trees_m c_all_trees_k c_all_trees_b .nil (passes_call (takes_of rfl rfl rfl rfl) (fun _ _ _ _ h => h)) (pa_cons (pv 9) pa_nil)))) (pa_cons (pe_glob (v := .ref cs.BadMany) rfl T.g_BadMany rfl) pa_nil))))) (pss_one (ps_ret pe_bl)) pss_nil)))))))))))))))))
      (pss_one (ps_ret pe_bl))))), law_body (by decide) hS hl tabs q fun S => ⟨_, (rds_seq (rds_for (rdi_range1 (rda_cons rd_int rda_nil)) (rdg_name (vs := [2]) (by decide)) (rds_seq (rds_set (rd_call0 (E := E0) (rda_st (i := 1) (rda_cons (rd_op o2_ix (rd_lst (rda_cons (rd_lst (rda_cons rd_int (rda_cons rd_int (rda_cons rd_int (rda_cons rd_int rda_nil))))) (rda_cons (rd_lst (rda_cons rd_int (rda_cons rd_int (rda_cons rd_int (rda_cons rd_int rda_nil))))) rda_nil))) (rd_var (i := 2))) rda_nil))))
      (rds_seq (rds_set (rd_call0 (E := E0) (rda_cons (rd_var (i := 3)) rda_nil)))
      (rds_seq (rds_setO (rdn_if (rdt_test (rd_op o2_eq (rd_call0 (E := E0) (rda_st (i := 1) (rda_cons rd_int rda_nil))) rd_int)) (rdn_callO0 (rda_cons (rd_var (i := 3)) rda_nil)) (rdn_callKwO (E' := E0) (DS := (ds_all_trees cs)) (ix := [0]) rda_nil (rda_cons (rd_var (i := 3)) rda_nil))))
      (rds_seq (rds_if (rdt_view (i := 5) (rdt_or (rdt_test (rd_op o2_ne (rd_cb cal_len (rda_cons (rd_var (i := 4)) rda_nil)) (rd_op o2_ix (rd_lst (rda_cons rd_int (rda_cons rd_int (rda_cons rd_int (rda_cons rd_int (rda_cons rd_int rda_nil)))))) (rd_op o2_sub (rd_var (i := 3)) rd_int)))) (rdt_not (rdt_B (rd_isT (by decide) (rd_var (i := 5))))))) (rds_ret rd_bl) rds_next)
      (rds_seq (rds_if (rdt_test (rd_op o2_ne (rd_lenO (i := 5)) (rd_cb cal_len (rda_cons (rd_var (i := 4)) rda_nil)))) (rds_ret rd_bl) rds_next)
      (rds_seq (rds_set (rd_listRng (rda_cons (rd_cb cal_len (rda_cons (rd_var (i := 4)) rda_nil)) rda_nil)))
      (rds_seq (rds_if (rdt_and (rdt_test (rd_op o2_eq (rd_var (i := 3)) rd_int)) (rdt_test (rd_op o2_cmp (rd_call0 (E := E0) (rda_st (i := 1) (rda_cons rd_int rda_nil))) rd_int))) (rds_set (rd_op o2_addL (rd_lst (rda_cons rd_int (rda_cons (rd_op o2_sub (rd_cb cal_len (rda_cons (rd_var (i := 4)) rda_nil)) rd_int) rda_nil))) (rd_lc (rdj_of (rdi_range1 (rda_cons rd_int rda_nil))) (rdg_name (vs := [10]) (by decide)) rdt_yes (rd_call0 (E := E0) (rda_st (i := 1) (rda_cons (rd_cb cal_len (rda_cons (rd_var (i := 4)) rda_nil)) rda_nil)))))) rds_next)
      (rds_seq (rds_for (rdi_list (rd_var (i := 6))) (rdg_name (vs := [7]) (by decide)) (rds_if (rdt_not (rdt_B (rd_call0 (E := E0) (rda_cons (rd_ixO (i := 5) (rd_var (i := 7))) (rda_cons (rd_var (i := 3)) (rda_cons (rd_op o2_ix (rd_var (i := 4)) (rd_var (i := 7))) rda_nil)))))) (rds_ret rd_bl) rds_next))
      (rds_seq (rds_dropPop (j := 5) (rd_call0 (E := E0) (rda_st (i := 1) (rda_cons (rd_lenO (i := 5)) rda_nil))))
      (rds_seq (rds_appO (i := 5) rd_non)
      (rds_seq (rds_set (rd_ofN (rdn_callO0 (rda_cons (rd_var (i := 3)) rda_nil))))
      (rds_seq (rds_set (rd_call0 (E := E0) (rda_st (i := 1) (rda_cons (rd_var (i := 6)) rda_nil))))
      (rds_seq (rds_if (rdt_or (rdt_test (rd_op o2_ne (rd_cb cal_len (rda_cons (rd_var (i := 8)) rda_nil)) (rd_cb cal_len (rda_cons (rd_var (i := 4)) rda_nil)))) (rdt_not (rdt_B (rd_call0 (E := E0) (rda_cons (rd_op o2_ix (rd_var (i := 8)) (rd_var (i := 7))) (rda_cons (rd_var (i := 3)) (rda_cons (rd_op o2_ix (rd_var (i := 4)) (rd_var (i := 7))) rda_nil))))))) (rds_ret rd_bl) rds_next)
      (rds_seq (rds_set (rd_call0 (E := E0) (rda_st (i := 1) (rda_cons (rd_lst (rda_cons rd_int (rda_cons rd_int (rda_cons (rd_un o1_neg rd_int) (rda_cons rd_non (rda_cons rd_bl (rda_cons rd_bl (rda_cons rd_str (rda_cons (rd_tup (rda_cons rd_int rda_nil)) (rda_cons rd_int (rda_cons (rd_op o2_int rd_int rd_int) (rda_cons (rd_lst (rda_cons rd_int rda_nil)) rda_nil)))))))))))) rda_nil))))
      (rds_if (rdt_not (rdt_B (rd_is (.own _) (rd_lam fun _ => (rd_ofN (rdn_callO (rda_cons (rd_var (i := 9)) rda_nil))))))) (rds_ret rd_bl) rds_next))))))))))))))))
      (rds_ret rd_bl)), ?_⟩⟩
  walk_at "dl"
  refine ⟨by omega, by omega, fun i ρ n => n ≤ 2000 * i ∧ ∃ (u2 u3 u4 u5 u6 u7 u8 u9 u10 : SV), ρ = [.d (.lst (ns.map D.int)), .st, u2, u3, u4, u5, u6, u7, u8, u9, u10], ⟨by omega, _, _, _, _, _, _, _, _, _, rfl⟩, ?_, ?_⟩
  · rintro i x ρ n hx ⟨hn, u2, u3, u4, u5, u6, u7, u8, u9, u10, rfl⟩
    obtain ⟨hi, rfl⟩ := range_get (m := 2) hx
    clear hx
    walk_at "dl"
    have hd : ∃ q : List Int, ([[D.int 4, D.int 5, D.int 3, D.int 4], [D.int 1, D.int 2, D.int 3, D.int 4]].map D.lst)[i]? = some (.lst (q.map D.int)) ∧ (∀ v ∈ q, 1 ≤ v ∧ v ≤ 5) ∧ q.length = 4 := by
      rcases (show i = 0 ∨ i = 1 by omega) with rfl | rfl
      · exact ⟨[4, 5, 3, 4], rfl, by decide, rfl⟩
      · exact ⟨[1, 2, 3, 4], rfl, by decide, rfl⟩
    obtain ⟨q, hq, qb, ql⟩ := hd
    refine ⟨_, at_nat (j := i) hq, ?_⟩
    show ds_law_pick _ _ _
    refine ⟨_, .inr rfl, by rw [List.length_map]; omega, by rw [List.length_map]; omega, lim (by omega), fun d hd n1 hn1 => ?_⟩
    obtain ⟨mi, hmi, rfl⟩ := List.mem_map.mp hd
    obtain ⟨m1, m5⟩ := qb mi hmi
    obtain ⟨m, rfl⟩ := Int.eq_ofNat_of_zero_le (show 0 ≤ mi by omega)
    clear hd
    refine ⟨m, rfl, by omega, by omega, ?_⟩
    refine ⟨2, rfl, by decide, by decide, lim (by omega), fun a n2 a0 a1 hn2 => ?_⟩
    show eqP id (.int a) (.int 0) _
    rw [eqP_int]
    have m1' : 1 ≤ m := by omega
    have m5' : m ≤ 5 := by omega
    obtain ⟨L, hL, hat⟩ : ∃ L : Nat, (famL m).length = L ∧ atD [D.int 1, D.int 2, D.int 8, D.int 64, D.int 832] ((m : Int) - 1) = some (.int (L : Int)) := by
      have h := famL_len m1' m5'
      rcases five m1' m5' with rfl | rfl | rfl | rfl | rfl <;> exact ⟨_, (Option.some.inj h).symm, rfl⟩
    have L1 : 1 ≤ L ∧ L ≤ 832 := by
      have h := famL_len m1' m5'
      rw [hL] at h
      rcases five m1' m5' with rfl | rfl | rfl | rfl | rfl <;> (have := Option.some.inj h; omega)
    have lt : ((famL m).map tt).length = L := by rw [List.length_map, hL]
    have lo : ((famL m).map (treeOf cs m)).length = L := by rw [List.length_map, hL]
    cases decide (a = 0)
    all_goals
      refine ⟨_, rfl, rfl, .inr ⟨m, rfl, m1', m5', ?_⟩⟩
      show ∃ d, _ ∧ _
      refine ⟨_, hat, ?_⟩
      rw [lt, eqP_int, decide_eq_true rfl]
      refine ⟨trivial, ?_⟩
      show eqP not (.int _) (.int _) _
      rw [lo, lt, eqP_int, decide_eq_true rfl]
      show ∃ i, _ ∧ _ ∧ _ ∧ _
      refine ⟨(L : Int), by rw [lt], by omega, by omega, ?_⟩
      rw [eqP_int, Int.toNat_natCast]
      have nat : ∃ sp : List Int, natsD L = sp.map D.int ∧ (∀ v ∈ sp, 0 ≤ v ∧ v < (L : Int)) ∧ 1 ≤ sp.length ∧ sp.length ≤ 1000 := by
        refine ⟨natsI L, rfl, fun v hv => ?_, by rw [natsI_len]; omega, by rw [natsI_len]; omega⟩
        unfold natsI at hv
        obtain ⟨j, hj, rfl⟩ := List.mem_map.mp hv
        have := List.mem_range.mp hj
        omega
      have fb : ∀ {v : Int}, 0 ≤ v → v < (L : Int) → ∃ (t : Nat) (f : List (List Int)), v = (t : Int) ∧ ((famL m).map tt)[t]? = some (tt f) ∧ ((famL m).map (treeOf cs m))[t]? = some (treeOf cs m f) ∧ Fam m f := fun {v} v0 v1 => by
        obtain ⟨t, rfl⟩ := Int.eq_ofNat_of_zero_le v0
        have ht : t < (famL m).length := by omega
        have ef := List.getElem?_eq_getElem ht
        exact ⟨t, _, rfl, by rw [List.getElem?_map, ef]; rfl, by rw [List.getElem?_map, ef]; rfl, (famL_fam m1' m5' (List.getElem_mem ht)).1⟩
      rcases Bool.eq_false_or_eq_true (decide ((m : Int) = 5)) with e5 | e5
      all_goals rw [e5]
      show ds_law_draw _ _ _
      refine ⟨4, rfl, by decide, by decide, lim (by omega), fun a2 n3 a20 a21 hn3 => ?_⟩
      dsimp only
      rcases Bool.eq_false_or_eq_true (decide ((0 : Int) < a2)) with ea | ea
      rw [ea]
      dsimp only
      rw [lt]
      refine ⟨by decide, by decide, by decide, compM_gen (c := 1) (N := n3 + 25) (good := fun _ y => ∃ v : Int, y = .int v ∧ 0 ≤ v ∧ v < (L : Int)) _ _ _ (by rw [show (rangeD 0 (Int.toNat 25)).length = 25 from rfl]; omega) (fun x hx n4 k hn4 hk => ?_) (fun ds n4 hn4 hl hg => ?_)⟩
      · exact ⟨(L : Int), rfl, by omega, by omega, lim (by omega), fun r n5 r0 r1 hn5 => hk _ _ hn5 ⟨r, rfl, r0, r1⟩⟩
      have e25 : (rangeD 0 (Int.toNat 25)).length = 25 := rfl
      rw [e25] at hl hn4
      obtain ⟨sp, esp, spb, sp1, sp2⟩ : ∃ sp : List Int, D.int 0 :: D.int ((L : Int) - 1) :: ds = sp.map D.int ∧ (∀ v ∈ sp, 0 ≤ v ∧ v < (L : Int)) ∧ 1 ≤ sp.length ∧ sp.length ≤ 1000 := by
        have hd : ∀ d ∈ ds, ∃ v : Int, d = .int v ∧ 0 ≤ v ∧ v < (L : Int) := fun d hd => by
          obtain ⟨j, hj⟩ := List.mem_iff_getElem?.mp hd
          have hj2 : j < 25 := by rw [← hl]; exact (List.getElem?_eq_some_iff.mp hj).1
          exact hg j _ d (List.getElem?_eq_getElem (by rw [e25]; exact hj2)) hj
        obtain ⟨q, rfl, hq⟩ := ints_all hd
        refine ⟨0 :: ((L : Int) - 1) :: q, rfl, fun v hv => ?_, ?_, ?_⟩
        · rcases List.mem_cons.mp hv with rfl | hv
          · omega
          rcases List.mem_cons.mp hv with rfl | hv
          · omega
          exact hq v hv
        · simp
        · rw [List.length_map] at hl
          simp [hl]
      refine ⟨by omega, ?_⟩
      rw [esp]
      have hn9 : n4 ≤ n + 100 := by omega
      clear hg
      generalize n4 = n9 at hn9 ⊢
      rotate_left
      rw [ea]
      dsimp only
      obtain ⟨sp, esp, spb, sp1, sp2⟩ := nat
      rw [esp]
      have hn9 : n3 ≤ n + 100 := by omega
      generalize n3 = n9 at hn9 ⊢
      rotate_left
      dsimp only
      obtain ⟨sp, esp, spb, sp1, sp2⟩ := nat
      rw [esp]
      have hn9 : n2 ≤ n + 100 := by omega
      generalize n2 = n9 at hn9 ⊢
      all_goals
        refine ⟨fun j ρ n' => n' = n9 ∧ ∃ (w7 : SV), ρ = [.d (.lst (ns.map D.int)), .st, .d (.int (i : Nat)), .d (.int (m : Int)), .d (.lst ((famL m).map tt)), .ol ((famL m).map (treeOf cs m)), .d (.lst (sp.map D.int)), w7, u8, u9, u10], ⟨rfl, _, rfl⟩, ?_, ?_⟩
        · rintro j x ρ n' hx ⟨hn', w7, rfl⟩
          subst hn'
          rw [List.getElem?_map] at hx
          obtain ⟨v, hv, rfl⟩ := Option.map_eq_some_iff.mp hx
          obtain ⟨v0, v1⟩ := spb v (List.mem_of_getElem? hv)
          obtain ⟨t, f, rfl, g1, g2, fm⟩ := fb v0 v1
          walk_at "dl"
          refine ⟨_, at_nat (j := t) g2, ?_⟩
          refine ⟨_, at_nat (j := t) g1, ?_⟩
          refine ⟨sortT f, m, f, rfl, m1', by omega, fm, norm_sort fm, ?_⟩
          exact ⟨rfl, _, rfl⟩
        · rintro ρ n' ⟨hn', w7, rfl⟩
          subst hn'
          walk_at "dl"
          rw [lo, lt]
          refine ⟨(L : Int), rfl, by omega, by omega, lim (by omega), fun r n4 r0 r1 hn4 => ?_⟩
          obtain ⟨r, rfl⟩ := Int.eq_ofNat_of_zero_le r0
          show ∃ m_1, _ ∧ _ ∧ _ ∧ _ ∧ _
          refine ⟨r, rfl, by omega, by omega, Nat.lt_of_le_of_lt (List.length_eraseIdx_le ..) (by rw [lo]; omega), ?_⟩
          refine ⟨_, rfl, rfl, .inr ⟨m, rfl, m1', m5', ?_⟩⟩
          show ds_law_pick _ _ _
          refine ⟨_, .inr rfl, by rw [List.length_map]; omega, by rw [List.length_map]; omega, lim (by omega), fun d hd n5 hn5 => ?_⟩
          obtain ⟨v, hv, rfl⟩ := List.mem_map.mp hd
          obtain ⟨v0, v1⟩ := spb v hv
          obtain ⟨t, f, rfl, g1, g2, fm⟩ := fb v0 v1
          rw [lo, decide_eq_true rfl]
          refine ⟨_, at_nat (j := t) g2, ?_⟩
          refine ⟨_, at_nat (j := t) g1, ?_⟩
          refine ⟨sortT f, m, f, rfl, m1', by omega, fm, norm_sort fm, ?_⟩
          refine ⟨⟨by decide, by decide, by decide⟩, _, .inr rfl, by simp, by simp, lim (by omega), fun bad hbad n6 hn6 => ?_⟩
          refine ⟨bad, rfl, ?_, .inl ⟨?_, T.r_BadMany, trivial, true, T.i_BadMany, by omega, _, _, _, _, _, _, _, _, _, rfl⟩⟩
          all_goals (
            simp only [List.mem_cons, List.not_mem_nil, or_false] at hbad
            rcases hbad with rfl | rfl | rfl | rfl | rfl | rfl | rfl | rfl | rfl | rfl | rfl <;> rfl)
  · exact fun _ _ _ => trivial

end
end Lw
namespace Lw
open L2 PySem DL
open He (ga ma fAd cT)
def dfs : List He.DefD := [
  ⟨("is_number", none), "is_number", "is_number", defArgs s_is_number, defBody s_is_number, defScope s_is_number, [], []⟩,
  ⟨("is_between", none), "is_between", "is_between", defArgs s_is_between, defBody s_is_between, defScope s_is_between, [], []⟩,
  ⟨("_law_draw", none), "_law_draw", "_law_draw", defArgs s_law_draw, defBody s_law_draw, defScope s_law_draw, [], []⟩,
  ⟨("_law_pick", none), "_law_pick", "_law_pick", defArgs s_law_pick, defBody s_law_pick, defScope s_law_pick, [], []⟩,
  ⟨("_law_begun", none), "_law_begun", "_law_begun", defArgs s_law_begun, defBody s_law_begun, defScope s_law_begun, [], []⟩,
  ⟨("is_rising", none), "is_rising", "is_rising", defArgs s_is_rising, defBody s_is_rising, defScope s_is_rising, [], []⟩,
  ⟨("is_lot", none), "is_lot", "is_lot", defArgs s_is_lot, defBody s_is_lot, defScope s_is_lot, [], []⟩,
  ⟨("do_cross", none), "do_cross", "do_cross", defArgs s_do_cross, defBody s_do_cross, defScope s_do_cross, [], []⟩,
  ⟨("_law_crosses", none), "_law_crosses", "_law_crosses", defArgs s_law_crosses, defBody s_law_crosses, defScope s_law_crosses, [], []⟩,
  ⟨("_ties_at", none), "_ties_at", "_ties_at", defArgs s_ties_at, defBody s_ties_at, defScope s_ties_at, [], []⟩,
  ⟨("steps_to", none), "steps_to", "steps_to", defArgs s_steps_to, defBody s_steps_to, defScope s_steps_to, [], []⟩,
  ⟨("_are_ties", none), "_are_ties", "_are_ties", defArgs s_are_ties, defBody s_are_ties, defScope s_are_ties, [], []⟩,
  ⟨("_are_seats", none), "_are_seats", "_are_seats", defArgs s_are_seats, defBody s_are_seats, defScope s_are_seats, [], []⟩,
  ⟨("Tree", some "__init__"), "__init__", "Tree.__init__", defArgs s_Tree_init, defBody s_Tree_init, defScope s_Tree_init, [], []⟩,
  ⟨("check_many", none), "check_many", "check_many", defArgs s_check_many, defBody s_check_many, defScope s_check_many, [], []⟩,
  ⟨("are_partings", none), "are_partings", "are_partings", defArgs s_are_partings, defBody s_are_partings, defScope s_are_partings, [], []⟩,
  ⟨("_law_normal", none), "_law_normal", "_law_normal", defArgs s_law_normal, defBody s_law_normal, defScope s_law_normal, [], []⟩,
  ⟨("tie_of", none), "tie_of", "tie_of", defArgs s_tie_of, defBody s_tie_of, defScope s_tie_of, [], []⟩,
  ⟨("_inmost", none), "_inmost", "_inmost", defArgs s_inmost, defBody s_inmost, defScope s_inmost, [], []⟩,
  ⟨("tree_of", none), "tree_of", "tree_of", defArgs s_tree_of, defBody s_tree_of, defScope s_tree_of, [], []⟩,
  ⟨("_law_is_normal", none), "_law_is_normal", "_law_is_normal", defArgs s_law_is_normal, defBody s_law_is_normal, defScope s_law_is_normal, [], []⟩,
  ⟨("_law_every_partings", none), "_law_every_partings", "_law_every_partings", defArgs s_law_every_partings, defBody s_law_every_partings, defScope s_law_every_partings, [], []⟩,
  ⟨("_trees", none), "_trees", "_trees", defArgs s_trees, defBody s_trees, defScope s_trees, [], []⟩,
  ⟨("_partings", none), "_partings", "_partings", defArgs s_partings, defBody s_partings, defScope s_partings, [], []⟩,
  ⟨("_families", none), "_families", "_families", defArgs s_families, defBody s_families, defScope s_families, [], []⟩,
  ⟨("all_trees", none), "all_trees", "all_trees", defArgs s_all_trees, defBody s_all_trees, defScope s_all_trees, [], []⟩,
  ⟨("law", none), "law", "law", defArgs s_law, defBody s_law, defScope s_law, [], []⟩,
  ⟨("_law_caught", none), "_law_caught", "_law_caught", defArgs s_law_caught, defBody s_law_caught, defScope s_law_caught, [], []⟩]
def fcs : List He.Fa := [.free "abs", .free "all", .free "any", .free "bool", .free "enumerate", .free "int", .free "isinstance", .free "len", .free "list", .free "max", .free "min", .free "range", .free "repr", .free "sorted", .free "tuple", .free "zip", .int "LEAST_TIES_AT_LOST" 3, .int "MOST_LISTED" 5, .int "MOST_TIES" 21, .int "MOST_VALLEYS" 12, .glo "BadMany", .glo "BadPartings", .glo "BadSeats", .glo "BadTies", .glo "FoundError", .glo "Tree", .glo "is_number", .glo "is_between", .glo "_law_draw", .glo "_law_pick", .glo "_law_begun", .glo "is_rising", .glo "is_lot", .glo "do_cross", .glo "_law_crosses", .glo "_ties_at", .glo "steps_to", .glo "_are_ties", .glo "_are_seats", .glo "check_many", .glo "are_partings", .glo "_law_normal", .glo "tie_of", .glo "_inmost", .glo "tree_of", .glo "_law_is_normal", .glo "_law_every_partings", .glo "_trees", .glo "_partings", .glo "_families", .glo "all_trees", .glo "law", .glo "_law_caught"]
def tfs : List (He.Defn × Str) := [(("law", none), "law.<locals>.<lambda>")]
def csK (K : PySem.W.Frag) : Cs := ⟨ga K "BadMany", ga K "BadPartings", ga K "BadSeats", ga K "BadTies", ga K "FoundError", ga K "Tree"⟩
def exs (K : PySem.W.Frag) : Bool := errFB K (ga K "FoundError") (ga K "BadMany") && (errFB K (ga K "FoundError") (ga K "BadPartings") && (errFB K (ga K "FoundError") (ga K "BadSeats") && (errFB K (ga K "FoundError") (ga K "BadTies") && (clsFB K (ga K "Tree") ["ties", "seats"] && (mkB K (ga K "Tree") && (He.eqO (PySem.W.nsIn K mainGlobals "combinations") (some (some (.type "itertools.combinations"))) && (apartB K tfs)))))))
def loose0 : List PySem.Str := ["FoundError", "BadMany", "BadPartings", "BadSeats", "BadTies", "is_number", "is_between", "is_rising", "is_lot", "MOST_VALLEYS", "MOST_TIES", "LEAST_TIES_AT_LOST", "Tree", "_are_ties", "_are_seats", "_ties_at", "steps_to", "check_many", "tie_of", "do_cross", "are_partings", "tree_of", "_inmost", "MOST_LISTED", "all_trees", "_trees", "_partings", "_families", "_law_begun", "_law_draw"]
def loose1 : List PySem.Str := ["_law_pick", "_law_caught", "_law_crosses", "_law_every_partings", "_law_normal", "_law_is_normal"]
abbrev loose : List PySem.Str := loose0 ++ loose1
abbrev Rw : PySem.W.OpenRow := PySem.W.OpenLaw.row PySem.Challenge.rw_oncefound_k65_all_trees_of_few_valleys
abbrev tfd : List He.Defn := tfs.map (·.1)
abbrev hk : PySem.W.Hook := He.hookX 5 fcs dfs [] tfd exs
def ob (s : PySem.W.SharedT) : He.AlX := He.obsX 5 fcs dfs [] tfd exs (HandSHeadRun.getT s)
theorem ob_eq (s : PySem.W.SharedT) : ob s = hk.obs s.abs := He.obsX_eq (HandSHeadRun.getT_eq s)
set_option maxHeartbeats 0 in
theorem run (w : PySem.World) : HandSHeadRun.RunEqI Rw (PySem.W.view Rw.prog [0, 42]) hk ob 6000 loose w := by
  unfold HandSHeadRun.RunEqI
  kernel_rfl
theorem facts {w : PySem.World} {h : Heap} {K : PySem.W.Frag} {mg : Str → Option Value} {fa : Addr} (X : K.In h) (G : h.Ns mainGlobals mg) (hfa : mg ("law" : Str) = some (.ref fa)) (c : He.SaysX fcs dfs [] tfd exs w h K) : LawG PySem.Challenge.rw_oncefound_k65_all_trees_of_few_valleys w K CX0 16 63 "script" mg fa h := by
  have d := c.t.d
  obtain ⟨fd_is_number, F_is_number⟩ := d.def_ 0 (d := ⟨("is_number", none), "is_number", "is_number", defArgs s_is_number, defBody s_is_number, defScope s_is_number, [], []⟩) rfl
  have g_is_number : mg "is_number" = some (.ref (ga K "is_number")) := He.glo_ok X G (d.fact 26 (f := .glo "is_number") rfl)
  have L_is_number : L2.Fun K "is_number" "is_number" s_is_number (fAd K ("is_number", none)) fd_is_number := He5.fun_of F_is_number
  have B_is_number : Binds K fd_is_number ["thing"] [] := L_is_number.binds fun _ _ _ _ _ _ us hl => match us, hl with | [_], _ => rfl
  obtain ⟨fd_is_between, F_is_between⟩ := d.def_ 1 (d := ⟨("is_between", none), "is_between", "is_between", defArgs s_is_between, defBody s_is_between, defScope s_is_between, [], []⟩) rfl
  have g_is_between : mg "is_between" = some (.ref (ga K "is_between")) := He.glo_ok X G (d.fact 27 (f := .glo "is_between") rfl)
  have L_is_between : L2.Fun K "is_between" "is_between" s_is_between (fAd K ("is_between", none)) fd_is_between := He5.fun_of F_is_between
  have B_is_between : Binds K fd_is_between ["thing", "low", "high"] [] := L_is_between.binds fun _ _ _ _ _ _ us hl => match us, hl with | [_, _, _], _ => rfl
  obtain ⟨fd_law_draw, F_law_draw⟩ := d.def_ 2 (d := ⟨("_law_draw", none), "_law_draw", "_law_draw", defArgs s_law_draw, defBody s_law_draw, defScope s_law_draw, [], []⟩) rfl
  have g_law_draw : mg "_law_draw" = some (.ref (ga K "_law_draw")) := He.glo_ok X G (d.fact 28 (f := .glo "_law_draw") rfl)
  have L_law_draw : L2.Fun K "_law_draw" "_law_draw" s_law_draw (fAd K ("_law_draw", none)) fd_law_draw := He5.fun_of F_law_draw
  have B_law_draw : Binds K fd_law_draw ["state", "size_here"] [] := L_law_draw.binds fun _ _ _ _ _ _ us hl => match us, hl with | [_, _], _ => rfl
  obtain ⟨fd_law_pick, F_law_pick⟩ := d.def_ 3 (d := ⟨("_law_pick", none), "_law_pick", "_law_pick", defArgs s_law_pick, defBody s_law_pick, defScope s_law_pick, [], []⟩) rfl
  have g_law_pick : mg "_law_pick" = some (.ref (ga K "_law_pick")) := He.glo_ok X G (d.fact 29 (f := .glo "_law_pick") rfl)
  have L_law_pick : L2.Fun K "_law_pick" "_law_pick" s_law_pick (fAd K ("_law_pick", none)) fd_law_pick := He5.fun_of F_law_pick
  have B_law_pick : Binds K fd_law_pick ["state", "several"] [] := L_law_pick.binds fun _ _ _ _ _ _ us hl => match us, hl with | [_, _], _ => rfl
  obtain ⟨fd_law_begun, F_law_begun⟩ := d.def_ 4 (d := ⟨("_law_begun", none), "_law_begun", "_law_begun", defArgs s_law_begun, defBody s_law_begun, defScope s_law_begun, [], []⟩) rfl
  have g_law_begun : mg "_law_begun" = some (.ref (ga K "_law_begun")) := He.glo_ok X G (d.fact 30 (f := .glo "_law_begun") rfl)
  have L_law_begun : L2.Fun K "_law_begun" "_law_begun" s_law_begun (fAd K ("_law_begun", none)) fd_law_begun := He5.fun_of F_law_begun
  have B_law_begun : Binds K fd_law_begun ["script"] [] := L_law_begun.binds fun _ _ _ _ _ _ us hl => match us, hl with | [_], _ => rfl
  obtain ⟨fd_is_rising, F_is_rising⟩ := d.def_ 5 (d := ⟨("is_rising", none), "is_rising", "is_rising", defArgs s_is_rising, defBody s_is_rising, defScope s_is_rising, [], []⟩) rfl
  have g_is_rising : mg "is_rising" = some (.ref (ga K "is_rising")) := He.glo_ok X G (d.fact 31 (f := .glo "is_rising") rfl)
  have L_is_rising : L2.Fun K "is_rising" "is_rising" s_is_rising (fAd K ("is_rising", none)) fd_is_rising := He5.fun_of F_is_rising
  have B_is_rising : Binds K fd_is_rising ["things"] [] := L_is_rising.binds fun _ _ _ _ _ _ us hl => match us, hl with | [_], _ => rfl
  obtain ⟨fd_is_lot, F_is_lot⟩ := d.def_ 6 (d := ⟨("is_lot", none), "is_lot", "is_lot", defArgs s_is_lot, defBody s_is_lot, defScope s_is_lot, [], []⟩) rfl
  have g_is_lot : mg "is_lot" = some (.ref (ga K "is_lot")) := He.glo_ok X G (d.fact 32 (f := .glo "is_lot") rfl)
  have L_is_lot : L2.Fun K "is_lot" "is_lot" s_is_lot (fAd K ("is_lot", none)) fd_is_lot := He5.fun_of F_is_lot
  have B_is_lot : Binds K fd_is_lot ["thing", "low", "high"] [] := L_is_lot.binds fun _ _ _ _ _ _ us hl => match us, hl with | [_, _, _], _ => rfl
  obtain ⟨fd_do_cross, F_do_cross⟩ := d.def_ 7 (d := ⟨("do_cross", none), "do_cross", "do_cross", defArgs s_do_cross, defBody s_do_cross, defScope s_do_cross, [], []⟩) rfl
  have g_do_cross : mg "do_cross" = some (.ref (ga K "do_cross")) := He.glo_ok X G (d.fact 33 (f := .glo "do_cross") rfl)
  have L_do_cross : L2.Fun K "do_cross" "do_cross" s_do_cross (fAd K ("do_cross", none)) fd_do_cross := He5.fun_of F_do_cross
  have B_do_cross : Binds K fd_do_cross ["one", "other"] [] := L_do_cross.binds fun _ _ _ _ _ _ us hl => match us, hl with | [_, _], _ => rfl
  obtain ⟨fd_law_crosses, F_law_crosses⟩ := d.def_ 8 (d := ⟨("_law_crosses", none), "_law_crosses", "_law_crosses", defArgs s_law_crosses, defBody s_law_crosses, defScope s_law_crosses, [], []⟩) rfl
  have g_law_crosses : mg "_law_crosses" = some (.ref (ga K "_law_crosses")) := He.glo_ok X G (d.fact 34 (f := .glo "_law_crosses") rfl)
  have L_law_crosses : L2.Fun K "_law_crosses" "_law_crosses" s_law_crosses (fAd K ("_law_crosses", none)) fd_law_crosses := He5.fun_of F_law_crosses
  have B_law_crosses : Binds K fd_law_crosses ["one", "other"] [] := L_law_crosses.binds fun _ _ _ _ _ _ us hl => match us, hl with | [_, _], _ => rfl
  obtain ⟨fd_ties_at, F_ties_at⟩ := d.def_ 9 (d := ⟨("_ties_at", none), "_ties_at", "_ties_at", defArgs s_ties_at, defBody s_ties_at, defScope s_ties_at, [], []⟩) rfl
  have g_ties_at : mg "_ties_at" = some (.ref (ga K "_ties_at")) := He.glo_ok X G (d.fact 35 (f := .glo "_ties_at") rfl)
  have L_ties_at : L2.Fun K "_ties_at" "_ties_at" s_ties_at (fAd K ("_ties_at", none)) fd_ties_at := He5.fun_of F_ties_at
  have B_ties_at : Binds K fd_ties_at ["ties", "place"] [] := L_ties_at.binds fun _ _ _ _ _ _ us hl => match us, hl with | [_, _], _ => rfl
  obtain ⟨fd_steps_to, F_steps_to⟩ := d.def_ 10 (d := ⟨("steps_to", none), "steps_to", "steps_to", defArgs s_steps_to, defBody s_steps_to, defScope s_steps_to, [], []⟩) rfl
  have g_steps_to : mg "steps_to" = some (.ref (ga K "steps_to")) := He.glo_ok X G (d.fact 36 (f := .glo "steps_to") rfl)
  have L_steps_to : L2.Fun K "steps_to" "steps_to" s_steps_to (fAd K ("steps_to", none)) fd_steps_to := He5.fun_of F_steps_to
  have B_steps_to : Binds K fd_steps_to ["ties", "goal"] [] := L_steps_to.binds fun _ _ _ _ _ _ us hl => match us, hl with | [_, _], _ => rfl
  obtain ⟨fd_are_ties, F_are_ties⟩ := d.def_ 11 (d := ⟨("_are_ties", none), "_are_ties", "_are_ties", defArgs s_are_ties, defBody s_are_ties, defScope s_are_ties, [], []⟩) rfl
  have g_are_ties : mg "_are_ties" = some (.ref (ga K "_are_ties")) := He.glo_ok X G (d.fact 37 (f := .glo "_are_ties") rfl)
  have L_are_ties : L2.Fun K "_are_ties" "_are_ties" s_are_ties (fAd K ("_are_ties", none)) fd_are_ties := He5.fun_of F_are_ties
  have B_are_ties : Binds K fd_are_ties ["thing"] [] := L_are_ties.binds fun _ _ _ _ _ _ us hl => match us, hl with | [_], _ => rfl
  obtain ⟨fd_are_seats, F_are_seats⟩ := d.def_ 12 (d := ⟨("_are_seats", none), "_are_seats", "_are_seats", defArgs s_are_seats, defBody s_are_seats, defScope s_are_seats, [], []⟩) rfl
  have g_are_seats : mg "_are_seats" = some (.ref (ga K "_are_seats")) := He.glo_ok X G (d.fact 38 (f := .glo "_are_seats") rfl)
  have L_are_seats : L2.Fun K "_are_seats" "_are_seats" s_are_seats (fAd K ("_are_seats", none)) fd_are_seats := He5.fun_of F_are_seats
  have B_are_seats : Binds K fd_are_seats ["ties", "thing"] [] := L_are_seats.binds fun _ _ _ _ _ _ us hl => match us, hl with | [_, _], _ => rfl
  obtain ⟨fd_Tree_init, F_Tree_init⟩ := d.def_ 13 (d := ⟨("Tree", some "__init__"), "__init__", "Tree.__init__", defArgs s_Tree_init, defBody s_Tree_init, defScope s_Tree_init, [], []⟩) rfl
  have L_Tree_init : L2.Fun K "__init__" "Tree.__init__" s_Tree_init (fAd K ("Tree", some "__init__")) fd_Tree_init := He5.fun_of F_Tree_init
  have B_Tree_init : Binds K fd_Tree_init ["self", "ties", "seats"] [] := L_Tree_init.binds fun _ _ _ _ _ _ us hl => match us, hl with | [_, _, _], _ => rfl
  obtain ⟨fd_check_many, F_check_many⟩ := d.def_ 14 (d := ⟨("check_many", none), "check_many", "check_many", defArgs s_check_many, defBody s_check_many, defScope s_check_many, [], []⟩) rfl
  have g_check_many : mg "check_many" = some (.ref (ga K "check_many")) := He.glo_ok X G (d.fact 39 (f := .glo "check_many") rfl)
  have L_check_many : L2.Fun K "check_many" "check_many" s_check_many (fAd K ("check_many", none)) fd_check_many := He5.fun_of F_check_many
  have B_check_many : Binds K fd_check_many ["many"] [] := L_check_many.binds fun _ _ _ _ _ _ us hl => match us, hl with | [_], _ => rfl
  obtain ⟨fd_are_partings, F_are_partings⟩ := d.def_ 15 (d := ⟨("are_partings", none), "are_partings", "are_partings", defArgs s_are_partings, defBody s_are_partings, defScope s_are_partings, [], []⟩) rfl
  have g_are_partings : mg "are_partings" = some (.ref (ga K "are_partings")) := He.glo_ok X G (d.fact 40 (f := .glo "are_partings") rfl)
  have L_are_partings : L2.Fun K "are_partings" "are_partings" s_are_partings (fAd K ("are_partings", none)) fd_are_partings := He5.fun_of F_are_partings
  have B_are_partings : Binds K fd_are_partings ["many", "thing"] [] := L_are_partings.binds fun _ _ _ _ _ _ us hl => match us, hl with | [_, _], _ => rfl
  obtain ⟨fd_law_normal, F_law_normal⟩ := d.def_ 16 (d := ⟨("_law_normal", none), "_law_normal", "_law_normal", defArgs s_law_normal, defBody s_law_normal, defScope s_law_normal, [], []⟩) rfl
  have g_law_normal : mg "_law_normal" = some (.ref (ga K "_law_normal")) := He.glo_ok X G (d.fact 41 (f := .glo "_law_normal") rfl)
  have L_law_normal : L2.Fun K "_law_normal" "_law_normal" s_law_normal (fAd K ("_law_normal", none)) fd_law_normal := He5.fun_of F_law_normal
  have B_law_normal : Binds K fd_law_normal ["many", "some"] [] := L_law_normal.binds fun _ _ _ _ _ _ us hl => match us, hl with | [_, _], _ => rfl
  obtain ⟨fd_tie_of, F_tie_of⟩ := d.def_ 17 (d := ⟨("tie_of", none), "tie_of", "tie_of", defArgs s_tie_of, defBody s_tie_of, defScope s_tie_of, [], []⟩) rfl
  have g_tie_of : mg "tie_of" = some (.ref (ga K "tie_of")) := He.glo_ok X G (d.fact 42 (f := .glo "tie_of") rfl)
  have L_tie_of : L2.Fun K "tie_of" "tie_of" s_tie_of (fAd K ("tie_of", none)) fd_tie_of := He5.fun_of F_tie_of
  have B_tie_of : Binds K fd_tie_of ["one", "other"] [] := L_tie_of.binds fun _ _ _ _ _ _ us hl => match us, hl with | [_, _], _ => rfl
  obtain ⟨fd_inmost, F_inmost⟩ := d.def_ 18 (d := ⟨("_inmost", none), "_inmost", "_inmost", defArgs s_inmost, defBody s_inmost, defScope s_inmost, [], []⟩) rfl
  have g_inmost : mg "_inmost" = some (.ref (ga K "_inmost")) := He.glo_ok X G (d.fact 43 (f := .glo "_inmost") rfl)
  have L_inmost : L2.Fun K "_inmost" "_inmost" s_inmost (fAd K ("_inmost", none)) fd_inmost := He5.fun_of F_inmost
  have B_inmost : Binds K fd_inmost ["lots", "valley", "size"] [] := L_inmost.binds fun _ _ _ _ _ _ us hl => match us, hl with | [_, _, _], _ => rfl
  obtain ⟨fd_tree_of, F_tree_of⟩ := d.def_ 19 (d := ⟨("tree_of", none), "tree_of", "tree_of", defArgs s_tree_of, defBody s_tree_of, defScope s_tree_of, [], []⟩) rfl
  have g_tree_of : mg "tree_of" = some (.ref (ga K "tree_of")) := He.glo_ok X G (d.fact 44 (f := .glo "tree_of") rfl)
  have L_tree_of : L2.Fun K "tree_of" "tree_of" s_tree_of (fAd K ("tree_of", none)) fd_tree_of := He5.fun_of F_tree_of
  have B_tree_of : Binds K fd_tree_of ["many", "lots"] [] := L_tree_of.binds fun _ _ _ _ _ _ us hl => match us, hl with | [_, _], _ => rfl
  obtain ⟨fd_law_is_normal, F_law_is_normal⟩ := d.def_ 20 (d := ⟨("_law_is_normal", none), "_law_is_normal", "_law_is_normal", defArgs s_law_is_normal, defBody s_law_is_normal, defScope s_law_is_normal, [], []⟩) rfl
  have g_law_is_normal : mg "_law_is_normal" = some (.ref (ga K "_law_is_normal")) := He.glo_ok X G (d.fact 45 (f := .glo "_law_is_normal") rfl)
  have L_law_is_normal : L2.Fun K "_law_is_normal" "_law_is_normal" s_law_is_normal (fAd K ("_law_is_normal", none)) fd_law_is_normal := He5.fun_of F_law_is_normal
  have B_law_is_normal : Binds K fd_law_is_normal ["thing", "many", "some"] [] := L_law_is_normal.binds fun _ _ _ _ _ _ us hl => match us, hl with | [_, _, _], _ => rfl
  obtain ⟨fd_law_every_partings, F_law_every_partings⟩ := d.def_ 21 (d := ⟨("_law_every_partings", none), "_law_every_partings", "_law_every_partings", defArgs s_law_every_partings, defBody s_law_every_partings, defScope s_law_every_partings, [], []⟩) rfl
  have g_law_every_partings : mg "_law_every_partings" = some (.ref (ga K "_law_every_partings")) := He.glo_ok X G (d.fact 46 (f := .glo "_law_every_partings") rfl)
  have L_law_every_partings : L2.Fun K "_law_every_partings" "_law_every_partings" s_law_every_partings (fAd K ("_law_every_partings", none)) fd_law_every_partings := He5.fun_of F_law_every_partings
  have B_law_every_partings : Binds K fd_law_every_partings ["many"] [] := L_law_every_partings.binds fun _ _ _ _ _ _ us hl => match us, hl with | [_], _ => rfl
  obtain ⟨fd_trees, F_trees⟩ := d.def_ 22 (d := ⟨("_trees", none), "_trees", "_trees", defArgs s_trees, defBody s_trees, defScope s_trees, [], []⟩) rfl
  have g_trees : mg "_trees" = some (.ref (ga K "_trees")) := He.glo_ok X G (d.fact 47 (f := .glo "_trees") rfl)
  have L_trees : L2.Fun K "_trees" "_trees" s_trees (fAd K ("_trees", none)) fd_trees := He5.fun_of F_trees
  have B_trees : Binds K fd_trees ["many", "families"] [] := L_trees.binds fun _ _ _ _ _ _ us hl => match us, hl with | [_, _], _ => rfl
  obtain ⟨fd_partings, F_partings⟩ := d.def_ 23 (d := ⟨("_partings", none), "_partings", "_partings", defArgs s_partings, defBody s_partings, defScope s_partings, [], []⟩) rfl
  have g_partings : mg "_partings" = some (.ref (ga K "_partings")) := He.glo_ok X G (d.fact 48 (f := .glo "_partings") rfl)
  have L_partings : L2.Fun K "_partings" "_partings" s_partings (fAd K ("_partings", none)) fd_partings := He5.fun_of F_partings
  have B_partings : Binds K fd_partings ["many"] [] := L_partings.binds fun _ _ _ _ _ _ us hl => match us, hl with | [_], _ => rfl
  obtain ⟨fd_families, F_families⟩ := d.def_ 24 (d := ⟨("_families", none), "_families", "_families", defArgs s_families, defBody s_families, defScope s_families, [], []⟩) rfl
  have g_families : mg "_families" = some (.ref (ga K "_families")) := He.glo_ok X G (d.fact 49 (f := .glo "_families") rfl)
  have L_families : L2.Fun K "_families" "_families" s_families (fAd K ("_families", none)) fd_families := He5.fun_of F_families
  have B_families : Binds K fd_families ["many"] [] := L_families.binds fun _ _ _ _ _ _ us hl => match us, hl with | [_], _ => rfl
  obtain ⟨fd_all_trees, F_all_trees⟩ := d.def_ 25 (d := ⟨("all_trees", none), "all_trees", "all_trees", defArgs s_all_trees, defBody s_all_trees, defScope s_all_trees, [], []⟩) rfl
  have g_all_trees : mg "all_trees" = some (.ref (ga K "all_trees")) := He.glo_ok X G (d.fact 50 (f := .glo "all_trees") rfl)
  have L_all_trees : L2.Fun K "all_trees" "all_trees" s_all_trees (fAd K ("all_trees", none)) fd_all_trees := He5.fun_of F_all_trees
  have B_all_trees : Binds K fd_all_trees ["many"] [] := L_all_trees.binds fun _ _ _ _ _ _ us hl => match us, hl with | [_], _ => rfl
  obtain ⟨fd_law, F_law⟩ := d.def_ 26 (d := ⟨("law", none), "law", "law", defArgs s_law, defBody s_law, defScope s_law, [], []⟩) rfl
  have g_law : mg "law" = some (.ref (ga K "law")) := He.glo_ok X G (d.fact 51 (f := .glo "law") rfl)
  have L_law : L2.Fun K "law" "law" s_law (fAd K ("law", none)) fd_law := He5.fun_of F_law
  have B_law : Binds K fd_law ["script"] [] := L_law.binds fun _ _ _ _ _ _ us hl => match us, hl with | [_], _ => rfl
  obtain ⟨fd_law_caught, F_law_caught⟩ := d.def_ 27 (d := ⟨("_law_caught", none), "_law_caught", "_law_caught", defArgs s_law_caught, defBody s_law_caught, defScope s_law_caught, [], []⟩) rfl
  have g_law_caught : mg "_law_caught" = some (.ref (ga K "_law_caught")) := He.glo_ok X G (d.fact 52 (f := .glo "_law_caught") rfl)
  have L_law_caught : L2.Fun K "_law_caught" "_law_caught" s_law_caught (fAd K ("_law_caught", none)) fd_law_caught := He5.fun_of F_law_caught
  have B_law_caught : Binds K fd_law_caught ["work"] [] := L_law_caught.binds fun _ _ _ _ _ _ us hl => match us, hl with | [_], _ => rfl
  obtain ⟨t_LEAST_TIES_AT_LOST, k_LEAST_TIES_AT_LOST⟩ := He.int_ok X G (d.fact 16 (f := .int "LEAST_TIES_AT_LOST" 3) rfl)
  obtain ⟨t_MOST_LISTED, k_MOST_LISTED⟩ := He.int_ok X G (d.fact 17 (f := .int "MOST_LISTED" 5) rfl)
  obtain ⟨t_MOST_TIES, k_MOST_TIES⟩ := He.int_ok X G (d.fact 18 (f := .int "MOST_TIES" 21) rfl)
  obtain ⟨t_MOST_VALLEYS, k_MOST_VALLEYS⟩ := He.int_ok X G (d.fact 19 (f := .int "MOST_VALLEYS" 12) rfl)
  have m0 := c.more
  obtain ⟨q0, m1⟩ := b2 m0
  obtain ⟨q1, m2⟩ := b2 m1
  obtain ⟨q2, m3⟩ := b2 m2
  obtain ⟨q3, m4⟩ := b2 m3
  obtain ⟨q4, m5⟩ := b2 m4
  obtain ⟨q5, m6⟩ := b2 m5
  obtain ⟨q6, m7⟩ := b2 m6
  have E_BadMany := errFB_ok q0
  have E_BadPartings := errFB_ok q1
  have E_BadSeats := errFB_ok q2
  have E_BadTies := errFB_ok q3
  have C_Tree := clsFB_ok q4
  have M_Tree := mkB_ok q5
  have hap : apartB K tfs = true := m7
  have T : Txt K mg (csK K) ⟨t_LEAST_TIES_AT_LOST, t_MOST_LISTED, t_MOST_TIES, t_MOST_VALLEYS⟩ := {
    n_abs := He.free_ok X G (d.fact 0 (f := .free "abs") rfl)
    n_all := He.free_ok X G (d.fact 1 (f := .free "all") rfl)
    n_any := He.free_ok X G (d.fact 2 (f := .free "any") rfl)
    n_bool := He.free_ok X G (d.fact 3 (f := .free "bool") rfl)
    n_enumerate := He.free_ok X G (d.fact 4 (f := .free "enumerate") rfl)
    n_int := He.free_ok X G (d.fact 5 (f := .free "int") rfl)
    n_isinstance := He.free_ok X G (d.fact 6 (f := .free "isinstance") rfl)
    n_len := He.free_ok X G (d.fact 7 (f := .free "len") rfl)
    n_list := He.free_ok X G (d.fact 8 (f := .free "list") rfl)
    n_max := He.free_ok X G (d.fact 9 (f := .free "max") rfl)
    n_min := He.free_ok X G (d.fact 10 (f := .free "min") rfl)
    n_range := He.free_ok X G (d.fact 11 (f := .free "range") rfl)
    n_repr := He.free_ok X G (d.fact 12 (f := .free "repr") rfl)
    n_sorted := He.free_ok X G (d.fact 13 (f := .free "sorted") rfl)
    n_tuple := He.free_ok X G (d.fact 14 (f := .free "tuple") rfl)
    n_zip := He.free_ok X G (d.fact 15 (f := .free "zip") rfl)
    k_LEAST_TIES_AT_LOST := ⟨trivial, k_LEAST_TIES_AT_LOST⟩
    k_MOST_LISTED := ⟨trivial, k_MOST_LISTED⟩
    k_MOST_TIES := ⟨trivial, k_MOST_TIES⟩
    k_MOST_VALLEYS := ⟨trivial, k_MOST_VALLEYS⟩
    m_combinations := PySem.W.mg_of X G (He.eqO_ok q6)
    g_BadMany := He.glo_ok X G (d.fact 20 (f := .glo "BadMany") rfl)
    g_BadPartings := He.glo_ok X G (d.fact 21 (f := .glo "BadPartings") rfl)
    g_BadSeats := He.glo_ok X G (d.fact 22 (f := .glo "BadSeats") rfl)
    g_BadTies := He.glo_ok X G (d.fact 23 (f := .glo "BadTies") rfl)
    g_FoundError := He.glo_ok X G (d.fact 24 (f := .glo "FoundError") rfl)
    g_Tree := He.glo_ok X G (d.fact 25 (f := .glo "Tree") rfl)
    x_BadMany := E_BadMany.x
    e_BadMany := E_BadMany.e
    b_BadMany := E_BadMany.b
    t_BadMany := E_BadMany.t
    r_BadMany := E_BadMany.r
    i_BadMany := E_BadMany.i
    v_BadMany := E_BadMany.v
    x_BadPartings := E_BadPartings.x
    e_BadPartings := E_BadPartings.e
    b_BadPartings := E_BadPartings.b
    t_BadPartings := E_BadPartings.t
    r_BadPartings := E_BadPartings.r
    i_BadPartings := E_BadPartings.i
    v_BadPartings := E_BadPartings.v
    x_BadSeats := E_BadSeats.x
    e_BadSeats := E_BadSeats.e
    b_BadSeats := E_BadSeats.b
    t_BadSeats := E_BadSeats.t
    r_BadSeats := E_BadSeats.r
    i_BadSeats := E_BadSeats.i
    v_BadSeats := E_BadSeats.v
    x_BadTies := E_BadTies.x
    e_BadTies := E_BadTies.e
    b_BadTies := E_BadTies.b
    t_BadTies := E_BadTies.t
    r_BadTies := E_BadTies.r
    i_BadTies := E_BadTies.i
    v_BadTies := E_BadTies.v
    ic_Tree := C_Tree.ic
    no_Tree := C_Tree.no
    i_Tree := C_Tree.i
    na_Tree_ties := C_Tree.na "ties" (by simp)
    na_Tree_seats := C_Tree.na "seats" (by simp)
  }
  have e := hfa.symm.trans g_law
  cases e
  refine ⟨tfs.map (fun p => cT K p.1), fd_law, spLaw K (TTof K tfs), ⟨fun p hp => ?_, fun p hp => ?_, fun p hp => ?_⟩, fun base KI GI TB => ?_, fun s u => .of_eq ?_, fun H a ns hl _ hH hS => ⟨a, ns, rfl, hS, hl, tabs_of hH, fun _ => rfl⟩⟩
  · obtain ⟨r, hr, rfl⟩ := List.mem_map.mp hp
    exact c.empty r.1 (List.mem_map.mpr ⟨r, hr, rfl⟩)
  · obtain ⟨r, hr, rfl⟩ := List.mem_map.mp hp
    exact PySem.W.codeHd_of_K X (c.hd r.1 (List.mem_map.mpr ⟨r, hr, rfl⟩))
  · obtain ⟨r, hr, rfl⟩ := List.mem_map.mp hp
    exact c.out r.1 (List.mem_map.mpr ⟨r, hr, rfl⟩)
  · have c_is_number := ok_is_number (P := PySem.Challenge.rw_oncefound_k65_all_trees_of_few_valleys.prog) (w := w) (base := base) (TT := TTof K tfs) T ⟨_, _, L_is_number, g_is_number, L_is_number.kp, B_is_number⟩
    have c_law_draw := ok_law_draw (P := PySem.Challenge.rw_oncefound_k65_all_trees_of_few_valleys.prog) (w := w) (base := base) (TT := TTof K tfs) T ⟨_, _, L_law_draw, g_law_draw, L_law_draw.kp, B_law_draw⟩
    have c_law_begun := ok_law_begun (P := PySem.Challenge.rw_oncefound_k65_all_trees_of_few_valleys.prog) (w := w) (base := base) T ⟨_, _, L_law_begun, g_law_begun, L_law_begun.kp, B_law_begun⟩
    have c_is_rising := ok_is_rising (P := PySem.Challenge.rw_oncefound_k65_all_trees_of_few_valleys.prog) (w := w) (base := base) (TT := TTof K tfs) T ⟨_, _, L_is_rising, g_is_rising, L_is_rising.kp, B_is_rising⟩
    have c_do_cross := ok_do_cross (P := PySem.Challenge.rw_oncefound_k65_all_trees_of_few_valleys.prog) (w := w) (base := base) (TT := TTof K tfs) T ⟨_, _, L_do_cross, g_do_cross, L_do_cross.kp, B_do_cross⟩
    have c_law_crosses := ok_law_crosses (P := PySem.Challenge.rw_oncefound_k65_all_trees_of_few_valleys.prog) (w := w) (base := base) (TT := TTof K tfs) T ⟨_, _, L_law_crosses, g_law_crosses, L_law_crosses.kp, B_law_crosses⟩
    have c_ties_at := ok_ties_at (P := PySem.Challenge.rw_oncefound_k65_all_trees_of_few_valleys.prog) (w := w) (base := base) (TT := TTof K tfs) T ⟨_, _, L_ties_at, g_ties_at, L_ties_at.kp, B_ties_at⟩
    have c_law_normal := ok_law_normal (P := PySem.Challenge.rw_oncefound_k65_all_trees_of_few_valleys.prog) (w := w) (base := base) (TT := TTof K tfs) T ⟨_, _, L_law_normal, g_law_normal, L_law_normal.kp, B_law_normal⟩
    have c_tie_of := ok_tie_of (P := PySem.Challenge.rw_oncefound_k65_all_trees_of_few_valleys.prog) (w := w) (base := base) (TT := TTof K tfs) T ⟨_, _, L_tie_of, g_tie_of, L_tie_of.kp, B_tie_of⟩
    have c_inmost := ok_inmost (P := PySem.Challenge.rw_oncefound_k65_all_trees_of_few_valleys.prog) (w := w) (base := base) (TT := TTof K tfs) T ⟨_, _, L_inmost, g_inmost, L_inmost.kp, B_inmost⟩
    have c_partings := ok_partings (P := PySem.Challenge.rw_oncefound_k65_all_trees_of_few_valleys.prog) (w := w) (base := base) (TT := TTof K tfs) T ⟨_, _, L_partings, g_partings, L_partings.kp, B_partings⟩
    have c_is_between := ok_is_between (P := PySem.Challenge.rw_oncefound_k65_all_trees_of_few_valleys.prog) (w := w) (base := base) (TT := TTof K tfs) T ⟨_, _, L_is_between, g_is_between, L_is_between.kp, B_is_between⟩ c_is_number
    have c_law_pick := ok_law_pick (P := PySem.Challenge.rw_oncefound_k65_all_trees_of_few_valleys.prog) (w := w) (base := base) (TT := TTof K tfs) T ⟨_, _, L_law_pick, g_law_pick, L_law_pick.kp, B_law_pick⟩ c_law_draw
    have c_steps_to := ok_steps_to (P := PySem.Challenge.rw_oncefound_k65_all_trees_of_few_valleys.prog) (w := w) (base := base) (TT := TTof K tfs) T ⟨_, _, L_steps_to, g_steps_to, L_steps_to.kp, B_steps_to⟩ c_ties_at
    have c_law_is_normal := ok_law_is_normal (P := PySem.Challenge.rw_oncefound_k65_all_trees_of_few_valleys.prog) (w := w) (base := base) (TT := TTof K tfs) T ⟨_, _, L_law_is_normal, g_law_is_normal, L_law_is_normal.kp, B_law_is_normal⟩ c_law_normal
    have c_law_every_partings := ok_law_every_partings (P := PySem.Challenge.rw_oncefound_k65_all_trees_of_few_valleys.prog) (w := w) (base := base) (TT := TTof K tfs) T ⟨_, _, L_law_every_partings, g_law_every_partings, L_law_every_partings.kp, B_law_every_partings⟩ c_law_crosses
    have c_families := ok_families (P := PySem.Challenge.rw_oncefound_k65_all_trees_of_few_valleys.prog) (w := w) (base := base) (TT := TTof K tfs) T ⟨_, _, L_families, g_families, L_families.kp, B_families⟩ c_partings c_do_cross
    have c_is_lot := ok_is_lot (P := PySem.Challenge.rw_oncefound_k65_all_trees_of_few_valleys.prog) (w := w) (base := base) (TT := TTof K tfs) T ⟨_, _, L_is_lot, g_is_lot, L_is_lot.kp, B_is_lot⟩ c_is_between c_is_rising
    have c_are_seats := ok_are_seats (P := PySem.Challenge.rw_oncefound_k65_all_trees_of_few_valleys.prog) (w := w) (base := base) (TT := TTof K tfs) T ⟨_, _, L_are_seats, g_are_seats, L_are_seats.kp, B_are_seats⟩ c_is_between c_ties_at
    have c_check_many := ok_check_many (P := PySem.Challenge.rw_oncefound_k65_all_trees_of_few_valleys.prog) (w := w) (base := base) (TT := TTof K tfs) T ⟨_, _, L_check_many, g_check_many, L_check_many.kp, B_check_many⟩ c_is_between
    have c_are_ties := ok_are_ties (P := PySem.Challenge.rw_oncefound_k65_all_trees_of_few_valleys.prog) (w := w) (base := base) (TT := TTof K tfs) T ⟨_, _, L_are_ties, g_are_ties, L_are_ties.kp, B_are_ties⟩ c_is_lot c_is_rising c_steps_to
    have c_are_partings := ok_are_partings (P := PySem.Challenge.rw_oncefound_k65_all_trees_of_few_valleys.prog) (w := w) (base := base) (TT := TTof K tfs) T ⟨_, _, L_are_partings, g_are_partings, L_are_partings.kp, B_are_partings⟩ c_check_many c_is_lot c_is_rising c_do_cross
    have c_Tree_init := ok_Tree_init (P := PySem.Challenge.rw_oncefound_k65_all_trees_of_few_valleys.prog) (w := w) (base := base) (TT := TTof K tfs) T (init2_of L_Tree_init M_Tree B_Tree_init fun s us ws h1 h2 => match us, ws, h1, h2 with | [_], [_, _], _, _ => .of_eq (by obtain ⟨_, _, _, _, _, _, _, _, _, e, _⟩ := L_Tree_init.ex; subst e; rfl)) c_are_ties c_are_seats
    have c_tree_of := ok_tree_of (P := PySem.Challenge.rw_oncefound_k65_all_trees_of_few_valleys.prog) (w := w) (base := base) (TT := TTof K tfs) T ⟨_, _, L_tree_of, g_tree_of, L_tree_of.kp, B_tree_of⟩ c_are_partings c_tie_of c_inmost c_Tree_init
    have c_trees := ok_trees (P := PySem.Challenge.rw_oncefound_k65_all_trees_of_few_valleys.prog) (w := w) (base := base) (TT := TTof K tfs) T ⟨_, _, L_trees, g_trees, L_trees.kp, B_trees⟩ c_tree_of
    have c_all_trees := ok_all_trees (P := PySem.Challenge.rw_oncefound_k65_all_trees_of_few_valleys.prog) (w := w) (base := base) (TT := TTof K tfs) T ⟨_, _, L_all_trees, g_all_trees, L_all_trees.kp, B_all_trees⟩ c_is_between c_trees c_families
    have c_law := ok_law (P := PySem.Challenge.rw_oncefound_k65_all_trees_of_few_valleys.prog) (w := w) (base := base) (TT := TTof K tfs) T (funC_of F_law) c_law_begun c_law_pick c_law_every_partings c_law_draw c_all_trees c_law_is_normal ⟨_, _, L_law_caught, g_law_caught, L_law_caught.kp, B_law_caught⟩ (makesAt_of hap TB (p := (("law", none), "law.<locals>.<lambda>")) (by simp [tfs]))
    exact c_law.mono (by decide)
  · obtain ⟨oc, od, dV, kV, doc, pm, an, cdv, ct, osl, e, lk, hcd, hD, _⟩ := F_law.ex
    rcases hD with ⟨_, e2⟩ | ⟨e2, _⟩
    · subst e e2
      rfl
    · exact absurd rfl e2
end Lw
open PySem PySem.W PySem.Calls PyProof.Rows
set_option maxRecDepth 100000 in
set_option maxHeartbeats 0 in
theorem PySem.Challenge.cw_oncefound_k65_all_trees_of_few_valleys_holds : PySem.Challenge.rw_oncefound_k65_all_trees_of_few_valleys.Holds := by
  w_on; o_law
  refine HandSHeadRun.head_imp (r := Lw.Rw) (q := view Lw.Rw.prog [0, 42]) (H := Lw.hk) (ob := Lw.ob) (M := 6000) (loose := Lw.loose) (d := HandSHeadRun.topDef Lw.Rw.prog 42) (kwd := []) Lw.ob_eq Lw.run (by kernel_rfl) (by kernel_rfl) (by kernel_rfl) (by rfl) (by first | assumption | decide +kernel) (by decide +kernel) ⟨rfl, rfl, rfl, rfl, rfl, by decide +kernel⟩ ?hw ?hc
  case hw => w_witness2
  case hc =>
    refine DL.walkGE (l := PySem.Challenge.rw_oncefound_k65_all_trees_of_few_valleys) (n := 63) (k := 16) (x := "script") (CX := fun _ => L2.CX0) rfl (by decide) (by kernel_rfl) ⟨rfl, by decide, by decide⟩ ?F (fun _ _ _ _ _ z => z)
    intro w mg fa h Y G hmg0
    obtain ⟨K, KX, c⟩ := Y
    have hmg : mg ("law" : PySem.Str) = some (.ref fa) := by
      have e : (HandSHeadRun.topDef Lw.Rw.prog 42).name = ("law" : PySem.Str) := by kernel_rfl
      rw [← e]
      exact hmg0
    exact ⟨K, KX, Lw.facts KX G hmg c⟩
