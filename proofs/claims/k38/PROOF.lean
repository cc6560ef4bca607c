import PyProof.Rows.All
import Wide.All
import OpenK.AllK
import Wide.FinOn
import HandS.Base
import HandS.Call
import HandS.List
import HandS.Comp
import HandS.Dict
import HandS.Iter
import HandS.Text
import HandS.Words
import HandS.Exc
import HandS.ExcOwn
import HandS.Lambda
import HandS.Evl
import HandS.ExcIs
import HandS.TupAny
import HandS.TupMul
import HandS.IsInst
import PyProof.Rows.NestShow
import HandS.Zip
import KE.KExcIs
import HandS.WordsExc
import HandS.EndTab
import HandS.MakeKwOnly
import KE.KDictZip
import KE.KDictItemsList
import HandS.ExcValue
import HandS.GenList
import HandS.HeadWalk
import HandS.HeadHook4
import HandS.HeadNt
import HandS.Head2
import HandS.HeadEnd
import KE.GoesEnum
import PyProof.EnumMake
import HandS.ExcInit
import HandS.ExcField
import HandS.CallLocal
import HandS.Style
import HandS.SortInts
import PyProof.NeKinds
import HandS.TupSets
import HandS.Set
import HandS.SetBool
import HandS.Strs
import HandS.SetFor
import KE.SortData
import PyProof.TupleOfSeq
import KE.KSortTup
import KE.KSortAsk
import HandS.TupLe
import KE.DataMinMax
import HandS.Conv
import KE.KDictSum
import PyProof.DictMoreH
import HandS.SetKeys
import HandS.Deep
import PyProof.Rows.SeqMore
import HandS.WordsDict
import HandS.DictComp
import HandS.More
import HandS.OwnEq
import KE.GoesZip
import KE.GoesMore
import HandS.TryOnly
import HandS.Head3
import PySem.Challenge.RW_oncefound_k38_all_good_arrows
set_option Elab.async false
set_option linter.all false
set_option maxRecDepth 100000
set_option maxHeartbeats 2222222
/-! data, and what holds it in the heap -/
namespace DL
open L2 PySem PySem.Spec PyProof.Rows
open Evl (Ex ex_l ex_t sz_of)

structure FV where
  q : Str
  ps : Arguments
  body : Expr
  scope : Scope
def LamV (F : FV) (c f : Addr) : HO := .ext fun h => ∃ pm ctv, h.get? f = some (PySem.W.kla_obj "<lambda>" F.q F.ps F.body F.scope [] pm c ctv)
inductive D where
  | non | bl (b : Bool) | int (i : Int) | str (x : Str)
  | lst (xs : List D) | tup (xs : List D)
  | dic (ks : List Key) (ds : List D)
  | dit (ks : List (List Key)) (ds : List D)
  | ins (C : Addr) (ns : List Str) (ds : List D)
  | exc (C : Addr) (ns : List Str) (ds : List D)
  | fnv (f : Addr)
  | lam (F : FV)

/-- an exception object that was caught -/
def ExT (C : Addr) (d : Option Addr) (a : Addr) : HO := .ext fun h => ∃ (oe : Obj) (vs : Array Value), h.get? a = some oe ∧ Zc (.ref C) d oe ∧ oe.data = .fields vs

/-- an own class is no built-in one -/
def NoTy (K : PySem.W.Frag) (C : Addr) : Prop := ∀ t ∈ ["int", "bool", "str", "tuple", "list", "dict"], PySem.W.kitOne K (.ref C) (.type t) = some false
/-- what the class at C must say, so that its instances may be asked -/
structure InC (K : PySem.W.Frag) (C : Addr) : Prop where
  cl : Cls K C
  ha : PySem.W.findIn K (.ref C) "__class__" = some (some (.builtin "object.__class__"))
  hn : PySem.W.specialIn K (.builtin "object.__class__") "__get__" = some (some (.builtin "getset_descriptor.__get__"))
  ht : PySem.W.takesIn K (.builtin "object.__class__") = some true
  hm : PySem.W.mroIn K C (.type "object") = some true
  nt : NoTy K C

mutual
inductive Dn (K : PySem.W.Frag) (H : Hp) : V → D → Prop
  | non : Dn K H .non .non
  | bl (b : Bool) : Dn K H (.bl b) (.bl b)
  | int (i : Int) : Dn K H (.int i) (.int i)
  | str (x : Str) : Dn K H (.str x) (.str x)
  | fnv (f : Addr) : Dn K H (.ref f) (.fnv f)
  | lam {f c : Addr} {F : FV} : H f = some (LamV F c f) → H c = some (LamX.CodeO c F.q) → Dn K H (.ref f) (.lam F)
  | lst {a : Addr} {xs : List V} {ds : List D} : SqL K H a xs → DnA K H xs ds → Dn K H (.ref a) (.lst ds)
  | tup {a : Addr} {xs : List V} {ds : List D} (sq : SqT K H a xs) (da : DnA K H xs ds) (raw : H a = some (.tup xs) := by first | exact upd_same | assumption) : Dn K H (.ref a) (.tup ds)
  | dic {a : Addr} {kvs : List (Key × V)} {ks : List Key} {ds : List D} : H a = some (.dK kvs) → kvs.map (·.1) = ks → DnA K H (kvs.map (·.2)) ds → Dn K H (.ref a) (.dic ks ds)
  | dit {a : Addr} {kvs : List (List Key × V)} {ks : List (List Key)} {ds : List D} : H a = some (.dT kvs) → kvs.map (·.1) = ks → DnA K H (kvs.map (·.2)) ds → Dn K H (.ref a) (.dit ks ds)
  | ins {a C dx : Addr} {fs : List (Str × V)} {ns : List Str} {ds : List D} : InC K C → H a = some (.ins C dx fs) → fs.map (·.1) = ns → DnA K H (fs.map (·.2)) ds → Dn K H (.ref a) (.ins C ns ds)
  | exc {a C : Addr} {d : Option Addr} {fs : List (Str × V)} {ns : List Str} {ds : List D} : ExcC K C → NoTy K C → H a = some (ExT C d a) → (d = none ∧ fs = [] ∨ ∃ dd, d = some dd ∧ fs ≠ [] ∧ H dd = some (.xd fs)) → fs.map (·.1) = ns → DnA K H (fs.map (·.2)) ds → Dn K H (.ref a) (.exc C ns ds)
inductive DnA (K : PySem.W.Frag) (H : Hp) : List V → List D → Prop
  | nil : DnA K H [] []
  | cons {v : V} {vs : List V} {d : D} {ds : List D} : Dn K H v d → DnA K H vs ds → DnA K H (v :: vs) (d :: ds)
end

section
variable {K : PySem.W.Frag} {H H' : Hp}
mutual
theorem Dn.mono (e : Ex H H') : ∀ (d : D) {v : V}, Dn K H v d → Dn K H' v d
  | .non, _, h => by cases h; exact .non
  | .bl b, _, h => by cases h; exact .bl b
  | .int i, _, h => by cases h; exact .int i
  | .str x, _, h => by cases h; exact .str x
  | .fnv f, _, h => by cases h; exact .fnv f
  | .lam F, _, h => by
    cases h with
    | lam h1 h2 => exact .lam (e _ _ h1) (e _ _ h2)
  | .lst ds, _, h => by
    cases h with
    | lst h1 h2 => exact .lst (ex_l e h1) (DnA.mono e ds h2)
  | .tup ds, _, h => by
    cases h with
    | tup h1 h2 hr => exact .tup (ex_t e h1) (DnA.mono e ds h2) (e _ _ hr)
  | .dic ks ds, _, h => by
    cases h with
    | dic h1 h2 h3 => exact .dic (e _ _ h1) h2 (DnA.mono e ds h3)
  | .dit ks ds, _, h => by
    cases h with
    | dit h1 h2 h3 => exact .dit (e _ _ h1) h2 (DnA.mono e ds h3)
  | .ins C ns ds, _, h => by
    cases h with
    | ins hc h1 h2 h3 => exact .ins hc (e _ _ h1) h2 (DnA.mono e ds h3)
  | .exc C ns ds, _, h => by
    cases h with
    | exc hc ht h1 h0 h2 h3 =>
      refine .exc hc ht (e _ _ h1) ?_ h2 (DnA.mono e ds h3)
      rcases h0 with h0 | ⟨dd, h0, hne, h4⟩
      · exact .inl h0
      · exact .inr ⟨dd, h0, hne, e _ _ h4⟩
theorem DnA.mono (e : Ex H H') : ∀ (ds : List D) {vs : List V}, DnA K H vs ds → DnA K H' vs ds
  | [], _, h => by cases h; exact .nil
  | d :: ds, _, h => by
    cases h with
    | cons h1 h2 => exact .cons (Dn.mono e d h1) (DnA.mono e ds h2)
end
theorem Dn.up (e : Ex H H') {v : V} {d : D} (h : Dn K H v d) : Dn K H' v d := Dn.mono e d h
theorem DnA.up (e : Ex H H') {vs : List V} {ds : List D} (h : DnA K H vs ds) : DnA K H' vs ds := DnA.mono e ds h
theorem DnA.len : ∀ {vs : List V} {ds : List D}, DnA K H vs ds → vs.length = ds.length
  | [], _, h => by cases h; rfl
  | _ :: _, _, h => by
    cases h with
    | cons h1 h2 => rw [List.length_cons, List.length_cons, DnA.len h2]
theorem DnA.get : ∀ {vs : List V} {ds : List D} {i : Nat} {d : D}, DnA K H vs ds → ds[i]? = some d → ∃ v, vs[i]? = some v ∧ Dn K H v d
  | [], _, i, d, h, e => by cases h; simp at e
  | v :: vs, _, 0, d, h, e => by
    cases h with
    | cons h1 h2 =>
      simp at e
      subst e
      exact ⟨v, rfl, h1⟩
  | v :: vs, _, i + 1, d, h, e => by
    cases h with
    | cons h1 h2 =>
      obtain ⟨w, e1, e2⟩ := DnA.get (i := i) h2 (by simpa using e)
      exact ⟨w, by simpa using e1, e2⟩
theorem DnA.getV : ∀ {vs : List V} {ds : List D} {i : Nat} {v : V}, DnA K H vs ds → vs[i]? = some v → ∃ d, ds[i]? = some d ∧ Dn K H v d
  | [], _, i, d, h, e => by simp at e
  | v :: vs, _, 0, d, h, e => by
    cases h with
    | cons h1 h2 =>
      simp at e
      subst e
      exact ⟨_, rfl, h1⟩
  | v :: vs, _, i + 1, d, h, e => by
    cases h with
    | cons h1 h2 =>
      obtain ⟨w, e1, e2⟩ := DnA.getV (i := i) h2 (by simpa using e)
      exact ⟨w, by simpa using e1, e2⟩
theorem DnA.app : ∀ {vs us : List V} {ds es : List D}, DnA K H vs ds → DnA K H us es → DnA K H (vs ++ us) (ds ++ es)
  | [], _, _, _, h, g => by cases h; exact g
  | _ :: _, _, _, _, h, g => by
    cases h with
    | cons h1 h2 => exact .cons h1 (DnA.app h2 g)
theorem DnA.take : ∀ {vs : List V} {ds : List D} (n : Nat), DnA K H vs ds → DnA K H (vs.take n) (ds.take n)
  | _, _, 0, _ => by simp; exact .nil
  | [], _, n + 1, h => by cases h; exact .nil
  | _ :: _, _, n + 1, h => by
    cases h with
    | cons h1 h2 => exact .cons h1 (DnA.take n h2)
theorem DnA.drop : ∀ {vs : List V} {ds : List D} (n : Nat), DnA K H vs ds → DnA K H (vs.drop n) (ds.drop n)
  | _, _, 0, h => by simpa using h
  | [], _, n + 1, h => by cases h; exact .nil
  | _ :: _, _, n + 1, h => by
    cases h with
    | cons h1 h2 => exact DnA.drop n h2
theorem DnA.one {v : V} {d : D} (h : Dn K H v d) : DnA K H [v] [d] := .cons h .nil
theorem DnA.ints : ∀ (ns : List Int), DnA K H (ns.map V.int) (ns.map D.int)
  | [] => .nil
  | n :: ns => .cons (.int n) (DnA.ints ns)
end

/-! ### the source of draws, the tables of code, what is frozen -/
abbrev Tb := List (Addr × Str)
/-- the two objects that a draw changes -/
structure SA where
  a : Addr
  l : Addr
  c : Addr
  cs : List Int
abbrev LIM : Nat := 2 ^ 40
def kLarge : Key := .inr "large"
def kCells : Key := .inr "cells"
def kLeft : Key := .inr "left"
def kTurn : Key := .inr "turn"
/-- the source of draws stands; at most n draws were made -/
def StOk (K : PySem.W.Frag) (S : SA) (Hb H : Hp) (n : Nat) : Prop :=
  Hb S.a = none ∧ Hb S.l = none ∧ ∃ (ls cs : List Int) (m : Int) (t : Nat), S.c ≠ S.l ∧ S.c ≠ S.a ∧ S.a ≠ S.l ∧
    H S.a = some (.dK [(kLarge, .ref S.l), (kCells, .ref S.c), (kLeft, .int m), (kTurn, .int t)]) ∧ H S.l = some (.lst (ls.map V.int)) ∧ Hb S.c = some (.lst (cs.map V.int)) ∧
    (∀ x ∈ ls, 0 ≤ x) ∧ (∀ x ∈ cs, 0 ≤ x) ∧ 0 ≤ m ∧ t ≤ n ∧ ls.length ≤ 63 ∧ cs.length ≤ 63 ∧ cs = S.cs

/-- nothing lies at p, or a table of code -/
def Fresh (H : Hp) (p : Addr) : Prop := ∀ o, H p = some o → ∃ ps, o = .tbl ps
theorem fresh_none {H : Hp} {p : Addr} (h : H p = none) : Fresh H p := fun o e => by rw [h] at e; cases e
/-- an object that is no table of code -/
def Obn (H : Hp) (p : Addr) : Prop := ∃ o, H p = some o ∧ ∀ ps, o ≠ .tbl ps
theorem Fresh.ne {H : Hp} {p b : Addr} {o : HO} (f : Fresh H p) (h : H b = some o) (ho : ∀ ps, o ≠ .tbl ps) : b ≠ p := fun e => by
  subst e
  obtain ⟨ps, z⟩ := f _ h
  exact ho ps z
theorem Obn.ne {H : Hp} {p b : Addr} (w : Obn H b) (f : Fresh H p) : p ≠ b := by
  obtain ⟨o, h, ho⟩ := w
  exact (f.ne h ho).symm
theorem Obn.upd {H : Hp} {p b : Addr} {o : HO} (w : Obn H b) (ho : ∀ ps, o ≠ .tbl ps) : Obn (L2.upd H p o) b := by
  obtain ⟨u, h, hu⟩ := w
  by_cases e : b = p
  · exact ⟨o, by rw [e, upd_same], ho⟩
  · exact ⟨u, by rw [upd_ne e]; exact h, hu⟩
structure World (T : Tb) (S : SA) (Hb H : Hp) : Prop where
  ex : Ex Hb H
  tabs : LamX.Tabs T H
  tb : ∀ p ∈ T, Hb p.1 = none
  sa : Obn H S.a
  sl : Obn H S.l
  sc : Obn H S.c
  nt : ∀ b ps, Hb b ≠ some (.tbl ps)
theorem nt_upd {Hb : Hp} {p : Addr} {o : HO} (h : ∀ b ps, Hb b ≠ some (.tbl ps)) (ho : ∀ ps, o ≠ .tbl ps) : ∀ b ps, upd Hb p o b ≠ some (.tbl ps) := fun b ps z => by
  by_cases e : b = p
  · rw [e, upd_same] at z
    exact ho ps (Option.some.inj z)
  · rw [upd_ne e] at z
    exact h b ps z
/-- a step of the run: what is frozen stays and may grow, the source of draws stands, what is no one's business stays -/
structure Stp (K : PySem.W.Frag) (T : Tb) (S : SA) (Hb H : Hp) (n : Nat) (Hb' H' : Hp) (n' : Nat) : Prop where
  ex : Ex Hb Hb'
  wd : World T S Hb' H'
  st : StOk K S Hb H n → StOk K S Hb' H' n'
  own0 : ∀ p o, H p = some o → Hb p = none → p ≠ S.a → p ≠ S.l → (∀ ps, o ≠ .tbl ps) → H' p = some o ∧ (Hb' p = none ∨ Hb' p = some o ∧ ∃ q, o = LamX.CodeO p q)
  dm : ∀ p, Fresh H' p → Fresh H p
/-- what is no code object is not frozen by a step -/
theorem Stp.own {K : PySem.W.Frag} {T : Tb} {S : SA} {Hb H Hb' H' : Hp} {n n' : Nat} (s : Stp K T S Hb H n Hb' H' n') (p : Addr) (o : HO) (h1 : H p = some o) (h2 : Hb p = none) (h3 : p ≠ S.a) (h4 : p ≠ S.l) (h5 : ∀ ps, o ≠ .tbl ps)
    (h6 : ∀ q, o ≠ LamX.CodeO p q := by intro q z; unfold LamX.CodeO at z; cases z) : H' p = some o ∧ Hb' p = none := by
  obtain ⟨g1, g2⟩ := s.own0 p o h1 h2 h3 h4 h5
  rcases g2 with g2 | ⟨_, q, z⟩
  · exact ⟨g1, g2⟩
  · exact absurd z (h6 q)
theorem dm_upd {H : Hp} {p : Addr} {o : HO} (ho : ∀ ps, o ≠ .tbl ps) : ∀ q, Fresh (upd H p o) q → Fresh H q := fun q h u e => by
  by_cases z : q = p
  · obtain ⟨ps, y⟩ := h o (by rw [z, upd_same])
    exact (ho ps y).elim
  · exact h u (by rw [upd_ne z]; exact e)
section
variable {K : PySem.W.Frag} {T : Tb} {S : SA} {Hb H Hb1 H1 Hb2 H2 : Hp} {n n1 n2 : Nat} {p : Addr} {o : HO}
theorem Stp.refl (w : World T S Hb H) : Stp K T S Hb H n Hb H n := ⟨Ex.refl _, w, fun h => h, fun _ _ h1 h2 _ _ _ => ⟨h1, .inl h2⟩, fun _ h => h⟩
theorem Stp.trans (a : Stp K T S Hb H n Hb1 H1 n1) (b : Stp K T S Hb1 H1 n1 Hb2 H2 n2) : Stp K T S Hb H n Hb2 H2 n2 :=
  ⟨a.ex.trans b.ex, b.wd, fun h => b.st (a.st h), fun p o h1 h2 h3 h4 h5 => by
    obtain ⟨g1, g2⟩ := a.own0 p o h1 h2 h3 h4 h5
    rcases g2 with g2 | ⟨g2, q, z⟩
    · exact b.own0 p o g1 g2 h3 h4 h5
    · exact ⟨b.wd.ex _ _ (b.ex _ _ g2), .inr ⟨b.ex _ _ g2, q, z⟩⟩, fun p h => a.dm p (b.dm p h)⟩
theorem ex_upd (e : Ex Hb H) (h : H p = none) : Ex (upd Hb p o) (upd H p o) := fun b u q => by
  by_cases hb : b = p
  · subst hb; rw [upd_same] at q ⊢; exact q
  · rw [upd_ne hb] at q ⊢; exact e b u q
theorem free_of (e : Ex Hb H) (h : H p = none) : Hb p = none := Evl.fresh_back e h
theorem World.ne (w : World T S Hb H) (h : H p = none) {q : Addr × Str} (hq : q ∈ T) : q.1 ≠ p := by
  obtain ⟨ps, e, _⟩ := w.tabs q hq
  exact ne_of_none e h
theorem StOk.keep (k : ∀ b u, H b = some u → H1 b = some u) (kb : Ex Hb Hb1) (ka : Hb1 S.a = none) (kl : Hb1 S.l = none) (hn : n ≤ n1) (h : StOk K S Hb H n) : StOk K S Hb1 H1 n1 := by
  obtain ⟨_, _, ls, cs, m, t, h0, h1, h2, h3, h4, h5, h6, h7, h8, h9, h10⟩ := h
  exact ⟨ka, kl, ls, cs, m, t, h0, h1, h2, k _ _ h3, k _ _ h4, kb _ _ h5, h6, h7, h8, Nat.le_trans h9 hn, h10⟩
/-- a new object, frozen at once -/
theorem Stp.new (w : World T S Hb H) (hp : H p = none) (ho : ∀ ps, o ≠ .tbl ps := by intro _ z; cases z) : Stp K T S Hb H n (upd Hb p o) (upd H p o) n where
  ex := Ex.new (free_of w.ex hp)
  wd := ⟨ex_upd w.ex hp, fun q hq => (w.tabs q hq).ext (Ex.new hp), fun q hq => by rw [upd_ne (w.ne hp hq)]; exact w.tb q hq, w.sa.upd ho, w.sl.upd ho, w.sc.upd ho, nt_upd w.nt ho⟩
  st := fun h => by
    have ha : S.a ≠ p := by
      obtain ⟨_, _, ls, cs, m, t, _, _, _, h3, h4, _⟩ := h
      exact ne_of_none h3 hp
    have hl : S.l ≠ p := by
      obtain ⟨_, _, ls, cs, m, t, _, _, _, h3, h4, _⟩ := h
      exact ne_of_none h4 hp
    exact h.keep (Ex.new hp) (Ex.new (free_of w.ex hp)) (by rw [upd_ne ha]; exact h.1) (by rw [upd_ne hl]; exact h.2.1) (Nat.le_refl _)
  own0 := fun q u h1 h2 _ _ _ => by
    have hq : q ≠ p := ne_of_none h1 hp
    rw [upd_ne hq, upd_ne hq]
    exact ⟨h1, .inl h2⟩
  dm := dm_upd ho
/-- a new object, not frozen -/
theorem Stp.newO (w : World T S Hb H) (hp : H p = none) (ho : ∀ ps, o ≠ .tbl ps := by intro _ z; cases z) : Stp K T S Hb H n Hb (upd H p o) n where
  ex := Ex.refl _
  wd := ⟨w.ex.trans (Ex.new hp), fun q hq => (w.tabs q hq).ext (Ex.new hp), w.tb, w.sa.upd ho, w.sl.upd ho, w.sc.upd ho, w.nt⟩
  st := fun h => h.keep (Ex.new hp) (Ex.refl _) h.1 h.2.1 (Nat.le_refl _)
  own0 := fun q u h1 h2 _ _ _ => by
    have hq : q ≠ p := ne_of_none h1 hp
    rw [upd_ne hq]
    exact ⟨h1, .inl h2⟩
  dm := dm_upd ho
theorem Stp.le (w : World T S Hb H) (h : n ≤ n1) : Stp K T S Hb H n Hb H n1 := ⟨Ex.refl _, w, fun s => s.keep (fun _ _ q => q) (Ex.refl _) s.1 s.2.1 h, fun _ _ h1 h2 _ _ _ => ⟨h1, .inl h2⟩, fun _ h => h⟩
/-- an object of code is frozen -/
theorem Stp.code {q : Str} (w : World T S Hb H) (hc : H p = some (LamX.CodeO p q)) (hb : Hb p = none) (ha : H S.a ≠ some (LamX.CodeO S.a q)) (hl : H S.l ≠ some (LamX.CodeO S.l q)) : Stp K T S Hb H n (upd Hb p (LamX.CodeO p q)) H n := by
  have no : ∀ ps, LamX.CodeO p q ≠ .tbl ps := fun ps z => by
    unfold LamX.CodeO at z
    cases z
  have ex : Ex Hb (upd Hb p (LamX.CodeO p q)) := Ex.new hb
  have pa : S.a ≠ p := fun z => ha (by rw [z]; exact hc)
  have pl : S.l ≠ p := fun z => hl (by rw [z]; exact hc)
  refine ⟨ex, ⟨fun b u e => ?_, w.tabs, fun x hx => ?_, w.sa, w.sl, w.sc, nt_upd w.nt no⟩, fun h => h.keep (fun _ _ e => e) ex (by rw [upd_ne pa]; exact h.1) (by rw [upd_ne pl]; exact h.2.1) (Nat.le_refl _), fun b u e1 e2 _ _ _ => ?_, fun _ h => h⟩
  · by_cases z : b = p
    · subst z
      rw [upd_same] at e
      rw [← Option.some.inj e]
      exact hc
    · rw [upd_ne z] at e
      exact w.ex b u e
  · have z : x.1 ≠ p := fun z => by
      obtain ⟨ps, e, _⟩ := w.tabs x hx
      rw [z, hc] at e
      exact no ps (Option.some.inj e)
    rw [upd_ne z]
    exact w.tb x hx
  · by_cases z : b = p
    · subst z
      rw [hc] at e1
      rw [upd_same, ← Option.some.inj e1]
      exact ⟨hc, .inr ⟨rfl, q, rfl⟩⟩
    · rw [upd_ne z]
      exact ⟨e1, .inl e2⟩
end
end DL

/-! what a reading does to data -/
namespace DL
open L2 PySem PySem.Spec PyProof.Rows
open Evl (Ex ex_l ex_t sz_of)

/-- what a slot (or an argument) holds: nothing known, data, the source of draws, a list of one's own -/
inductive SV where
  | no | d (x : D) | st | ol (xs : List D) | me (x C : Addr) (ns : List Str) (ds : List D) | od (ks : List Key) (ds : List D) | ot (ks : List (List Key)) (ds : List D) | fv (F : FV)
/-- a list or an object of one's own -/
def isOwn : SV → Bool
  | .ol _ => true
  | .me _ _ _ _ => true
  | .od _ _ => true
  | .ot _ _ => true
  | _ => false
section
variable (K : PySem.W.Frag) (S : SA) (Hb H : Hp) (n : Nat)
def SlotOk : SV → Option V → Prop
  | .no, _ => True
  | .d x, o => ∃ v, o = some v ∧ Dn K Hb v x
  | .st, o => o = some (.ref S.a) ∧ StOk K S Hb H n
  | .ol xs, o => ∃ p vs, o = some (.ref p) ∧ H p = some (.lst vs) ∧ Hb p = none ∧ p ≠ S.a ∧ p ≠ S.l ∧ p ≠ S.c ∧ DnA K Hb vs xs
  | .me x C ns ds, o => o = some (.ref x) ∧ ∃ dx fs, H x = some (.ins C dx fs) ∧ Hb x = none ∧ x ≠ S.a ∧ x ≠ S.l ∧ x ≠ S.c ∧ fs.map (·.1) = ns ∧ DnA K Hb (fs.map (·.2)) ds
  | .od ks ds, o => ∃ p kvs, o = some (.ref p) ∧ H p = some (.dK kvs) ∧ Hb p = none ∧ p ≠ S.a ∧ p ≠ S.l ∧ p ≠ S.c ∧ kvs.map (·.1) = ks ∧ DnA K Hb (kvs.map (·.2)) ds
  | .ot ks ds, o => ∃ p kvs, o = some (.ref p) ∧ H p = some (.dT kvs) ∧ Hb p = none ∧ p ≠ S.a ∧ p ≠ S.l ∧ p ≠ S.c ∧ kvs.map (·.1) = ks ∧ DnA K Hb (kvs.map (·.2)) ds
  | .fv F, o => ∃ f c, o = some (.ref f) ∧ Hb f = some (LamV F c f) ∧ H c = some (LamX.CodeO c F.q) ∧ (∀ o, Hb c = some o → o = LamX.CodeO c F.q) ∧ c ≠ S.a ∧ c ≠ S.l
structure Slots (ρ : List SV) (σ : L2.St) : Prop where
  len : ρ.length = σ.length
  ok : ∀ (i : Nat) (s : SV), ρ[i]? = some s → ∃ o : Option V, σ[i]? = some o ∧ SlotOk K S Hb H n s o
  ap : ∀ (i j : Nat) (p : Addr) (xs ys : List D), i ≠ j → ρ[i]? = some (.ol xs) → ρ[j]? = some (.ol ys) → σ[i]? = some (some (.ref p)) → σ[j]? = some (some (.ref p)) → False
inductive Args : List SV → List V → Prop
  | nil : Args [] []
  | cons {s : SV} {v : V} {ss : List SV} {vs : List V} : SlotOk K S Hb H n s (some v) → Args ss vs → Args (s :: ss) (v :: vs)
end
abbrev DQ := D → Nat → Prop
abbrev DX := Addr → List Str → List D → Nat → Prop
abbrev DT := List SV → Nat → DQ → DX → Prop
abbrev DTA := List SV → Nat → (List SV → Nat → Prop) → DX → Prop
abbrev DTT := List SV → Nat → (Bool → Nat → Prop) → DX → Prop
abbrev DSp := List SV → Nat → DQ → DX → Prop

section
variable {K : PySem.W.Frag} {T : Tb} {S : SA} {Hb H Hb1 H1 Hb2 H2 : Hp} {n n1 n2 : Nat}
theorem SlotOk.step {s : SV} {o : Option V} (a : Stp K T S Hb H n Hb1 H1 n1) (h : SlotOk K S Hb H n s o) : SlotOk K S Hb1 H1 n1 s o := by
  cases s with
  | no => trivial
  | d x =>
    obtain ⟨v, e, h⟩ := h
    exact ⟨v, e, h.up a.ex⟩
  | st => exact ⟨h.1, a.st h.2⟩
  | ol xs =>
    obtain ⟨p, vs, e, h1, h2, h3, h4, hc, h5⟩ := h
    obtain ⟨g1, g2⟩ := a.own p _ h1 h2 h3 h4 (fun ps z => by cases z)
    exact ⟨p, vs, e, g1, g2, h3, h4, hc, h5.up a.ex⟩
  | me x C ns ds =>
    obtain ⟨e, dx, fs, h1, h2, h3, h4, hc, h5, h6⟩ := h
    obtain ⟨g1, g2⟩ := a.own x _ h1 h2 h3 h4 (fun ps z => by cases z)
    exact ⟨e, dx, fs, g1, g2, h3, h4, hc, h5, h6.up a.ex⟩
  | od ks ds =>
    obtain ⟨p, kvs, e, h1, h2, h3, h4, hc, h5, h6⟩ := h
    obtain ⟨g1, g2⟩ := a.own p _ h1 h2 h3 h4 (fun ps z => by cases z)
    exact ⟨p, kvs, e, g1, g2, h3, h4, hc, h5, h6.up a.ex⟩
  | ot ks ds =>
    obtain ⟨p, kvs, e, h1, h2, h3, h4, hc, h5, h6⟩ := h
    obtain ⟨g1, g2⟩ := a.own p _ h1 h2 h3 h4 (fun ps z => by cases z)
    exact ⟨p, kvs, e, g1, g2, h3, h4, hc, h5, h6.up a.ex⟩
  | fv F =>
    obtain ⟨f, c, e, h1, h2, h2b, h3, h4⟩ := h
    have no : ∀ ps, LamX.CodeO c F.q ≠ .tbl ps := fun ps z => by
      unfold LamX.CodeO at z
      cases z
    cases hc : Hb c with
    | none =>
      obtain ⟨g1, g2⟩ := a.own0 c _ h2 hc h3 h4 no
      exact ⟨f, c, e, a.ex _ _ h1, g1, (fun o z => by
        rcases g2 with g2 | ⟨g2, _⟩
        · rw [g2] at z; cases z
        · rw [g2] at z; exact (Option.some.inj z).symm), h3, h4⟩
    | some o =>
      have z := h2b o hc
      subst z
      have g := a.ex _ _ hc
      exact ⟨f, c, e, a.ex _ _ h1, a.wd.ex _ _ g, (fun o z => by rw [g] at z; exact (Option.some.inj z).symm), h3, h4⟩
theorem Slots.step {ρ : List SV} {σ : L2.St} (a : Stp K T S Hb H n Hb1 H1 n1) (h : Slots K S Hb H n ρ σ) : Slots K S Hb1 H1 n1 ρ σ :=
  ⟨h.len, fun i s e => let ⟨o, e1, e2⟩ := h.ok i s e; ⟨o, e1, e2.step a⟩, h.ap⟩
theorem Args.step {ss : List SV} {vs : List V} (a : Stp K T S Hb H n Hb1 H1 n1) (h : Args K S Hb H n ss vs) : Args K S Hb1 H1 n1 ss vs := by
  induction h with
  | nil => exact .nil
  | cons h _ ih => exact .cons (h.step a) ih
theorem Args.len {ss : List SV} {vs : List V} (h : Args K S Hb H n ss vs) : ss.length = vs.length := by
  induction h with
  | nil => rfl
  | cons _ _ ih => simp [ih]
end

/-- what is wanted of a value, of a Bool, of arguments, of an exception, behind a step from here -/
def VOk (K : PySem.W.Frag) (T : Tb) (S : SA) (Hb H : Hp) (n : Nat) (P : DQ) (Q : VK) : Prop :=
  ∀ d v n' Hb' H', Stp K T S Hb H n Hb' H' n' → Dn K Hb' v d → P d n' → Q v H'
def BOk (K : PySem.W.Frag) (T : Tb) (S : SA) (Hb H : Hp) (n : Nat) (P : Bool → Nat → Prop) (Q : Bool → Hp → Prop) : Prop :=
  ∀ b n' Hb' H', Stp K T S Hb H n Hb' H' n' → P b n' → Q b H'
def AOk (K : PySem.W.Frag) (T : Tb) (S : SA) (Hb H : Hp) (n : Nat) (P : List SV → Nat → Prop) (Q : List V → Hp → Prop) : Prop :=
  ∀ ss vs n' Hb' H', Stp K T S Hb H n Hb' H' n' → Args K S Hb' H' n' ss vs → P ss n' → Q vs H'
def ExD (K : PySem.W.Frag) (Hb : Hp) (od : Option Addr) (ns : List Str) (ds : List D) : Prop :=
  ∃ fs : List (Str × V), (od = none ∧ fs = [] ∨ ∃ dd, od = some dd ∧ fs ≠ [] ∧ Hb dd = some (.xd fs)) ∧ fs.map (·.1) = ns ∧ DnA K Hb (fs.map (·.2)) ds
def XOk (K : PySem.W.Frag) (T : Tb) (S : SA) (Hb H : Hp) (n : Nat) (XP : DX) (E : XK) : Prop :=
  ∀ C ns ds n' od Hb' H', Stp K T S Hb H n Hb' H' n' → ExD K Hb' od ns ds → XP C ns ds n' → E (.ref C) od H'

def Rd (K : PySem.W.Frag) (T : Tb) (S : SA) (E : XK) (te : TE) (F : DT) : Prop :=
  ∀ σ ρ Hb H n P XP Q, World T S Hb H → Slots K S Hb H n ρ σ → F ρ n P XP → VOk K T S Hb H n P Q → XOk K T S Hb H n XP E → te σ H Q
def RdT (K : PySem.W.Frag) (T : Tb) (S : SA) (E : XK) (tt : TT) (F : DTT) : Prop :=
  ∀ σ ρ Hb H n P XP Q, World T S Hb H → Slots K S Hb H n ρ σ → F ρ n P XP → BOk K T S Hb H n P Q → XOk K T S Hb H n XP E → tt σ H Q
def RdA (K : PySem.W.Frag) (T : Tb) (S : SA) (E : XK) (ta : TA) (F : DTA) : Prop :=
  ∀ σ ρ Hb H n P XP Q, World T S Hb H → Slots K S Hb H n ρ σ → F ρ n P XP → AOk K T S Hb H n P Q → XOk K T S Hb H n XP E → ta σ H Q

/-- a def's promise by data -/
def spOf (K : PySem.W.Frag) (T : Tb) (DS : DSp) : Sp := fun vs H Q E => ∃ S Hb n ss P XP, World T S Hb H ∧ Args K S Hb H n ss vs ∧ DS ss n P XP ∧ VOk K T S Hb H n P Q ∧ XOk K T S Hb H n XP E

section
variable {K : PySem.W.Frag} {T : Tb} {S : SA} {E : XK} {Hb H Hb1 H1 : Hp} {n n1 : Nat} {P : DQ} {XP : DX} {Q : VK}
theorem VOk.step (a : Stp K T S Hb H n Hb1 H1 n1) (h : VOk K T S Hb H n P Q) : VOk K T S Hb1 H1 n1 P Q := fun d v n' Hb' H' s => h d v n' Hb' H' (a.trans s)
theorem XOk.step (a : Stp K T S Hb H n Hb1 H1 n1) (h : XOk K T S Hb H n XP E) : XOk K T S Hb1 H1 n1 XP E := fun C ns ds n' od Hb' H' s => h C ns ds n' od Hb' H' (a.trans s)
theorem VOk.now {v : V} {d : D} (h : VOk K T S Hb H n P Q) (w : World T S Hb H) (hv : Dn K Hb v d) (p : P d n) : Q v H := h d v n Hb H (.refl w) hv p
theorem VOk.new {d : D} {p : Addr} {o : HO} (h : VOk K T S Hb H n P Q) (w : World T S Hb H) (hp : H p = none) (hv : Dn K (upd Hb p o) (.ref p) d) (q : P d n) (ho : ∀ ps, o ≠ .tbl ps := by intro _ z; cases z) : Q (.ref p) (upd H p o) := h d _ n _ _ (.new w hp ho) hv q
def xF : DX := fun _ _ _ _ => False
theorem XOk.none {E : XK} : XOk K T S Hb H n xF E := fun _ _ _ _ _ _ _ _ _ h => h.elim
end

/-! ### names, constants -/
def slotD (ρ : List SV) (i : Nat) (k : D → Prop) : Prop := match ρ[i]? with
  | some (.d x) => k x
  | _ => False
def xVar (i : Nat) : DT := fun ρ n P _ => slotD ρ i fun x => P x n
def xC (d : D) : DT := fun _ n P _ => P d n
section
variable {K : PySem.W.Frag} {T : Tb} {S : SA} {E : XK}
theorem Slots.dat {Hb H : Hp} {n : Nat} {ρ : List SV} {σ : L2.St} {i : Nat} {k : D → Prop} (sl : Slots K S Hb H n ρ σ) (h : slotD ρ i k) : ∃ v d, σ[i]? = some (some v) ∧ Dn K Hb v d ∧ k d := by
  unfold slotD at h
  cases e : ρ[i]? with
  | none => rw [e] at h; exact h.elim
  | some s =>
    rw [e] at h
    cases s with
    | d x =>
      obtain ⟨o, e1, v, e2, e3⟩ := sl.ok i _ e
      exact ⟨v, x, by rw [e1, e2], e3, h⟩
    | no => exact h.elim
    | st => exact h.elim
    | ol xs => exact h.elim
    | me _ _ _ _ => exact h.elim
    | od _ _ => exact h.elim
    | ot _ _ => exact h.elim
    | fv _ => exact h.elim
theorem rd_var {i : Nat} : Rd K T S E (tVar i) (xVar i) := fun σ ρ Hb H n P XP Q w sl h q _ => by
  obtain ⟨v, d, e, hd, p⟩ := sl.dat h
  exact ⟨v, e, q.now w hd p⟩
theorem rd_int {i : Int} : Rd K T S E (tC (.int i)) (xC (.int i)) := fun σ ρ Hb H n P XP Q w sl h q _ => q.now w (.int i) h
theorem rd_bl {i : Bool} : Rd K T S E (tC (.bl i)) (xC (.bl i)) := fun σ ρ Hb H n P XP Q w sl h q _ => q.now w (.bl i) h
theorem rd_str {i : Str} : Rd K T S E (tC (.str i)) (xC (.str i)) := fun σ ρ Hb H n P XP Q w sl h q _ => q.now w (.str i) h
theorem rd_non : Rd K T S E (tC .non) (xC .non) := fun σ ρ Hb H n P XP Q w sl h q _ => q.now w .non h

/-! ### arguments -/
def xaNil : DTA := fun _ n P _ => P [] n
def xaCons (F : DT) (G : DTA) : DTA := fun ρ n P XP => F ρ n (fun d n1 => G ρ n1 (fun ss n2 => P (.d d :: ss) n2) XP) XP
def xaSt (i : Nat) (G : DTA) : DTA := fun ρ n P XP => ρ[i]? = some .st ∧ G ρ n (fun ss n2 => P (.st :: ss) n2) XP
theorem rda_nil : RdA K T S E tNil xaNil := fun σ ρ Hb H n P XP Q w sl h q _ => q [] [] n Hb H (.refl w) .nil h
theorem rda_cons {te : TE} {ta : TA} {F : DT} {G : DTA} (h1 : Rd K T S E te F) (h2 : RdA K T S E ta G) : RdA K T S E (tCons te ta) (xaCons F G) := fun σ ρ Hb H n P XP Q w sl h q x =>
  h1 σ ρ Hb H n _ XP _ w sl h (fun d v n1 Hb1 H1 s hd p => h2 σ ρ Hb1 H1 n1 _ XP _ s.wd (sl.step s) p (fun ss vs n2 Hb2 H2 s2 ha p2 => q _ _ n2 Hb2 H2 (s.trans s2) (.cons (s := .d d) ⟨v, rfl, hd.up s2.ex⟩ ha) p2) (x.step s)) x
theorem rda_st {i : Nat} {ta : TA} {G : DTA} (h2 : RdA K T S E ta G) : RdA K T S E (tCons (tVar i) ta) (xaSt i G) := fun σ ρ Hb H n P XP Q w sl h q x => by
  obtain ⟨e, h⟩ := h
  obtain ⟨o, e1, e2, e3⟩ := sl.ok i _ e
  refine ⟨.ref S.a, by rw [e1, e2], ?_⟩
  exact h2 σ ρ Hb H n _ XP _ w sl h (fun ss vs n2 Hb2 H2 s2 ha p2 => q _ _ n2 Hb2 H2 s2 (.cons (s := .st) ⟨rfl, s2.st e3⟩ ha) p2) x

/-! ### calls of defs -/
/-! ### operators by values -/
/-- an operator on data: where it may stand, what it yields -/
def Op2 (K : PySem.W.Frag) (r : R2) (f : D → D → (D → Prop) → Prop) : Prop :=
  ∀ {T : Tb} {S : SA} {x y : V} {a b : D} {Hb H : Hp} {n : Nat} {P : DQ} {Q : VK}, World T S Hb H → Dn K Hb x a → Dn K Hb y b → f a b (fun d => P d n) → VOk K T S Hb H n P Q → r x y H Q
def xOp (f : D → D → (D → Prop) → Prop) (F G : DT) : DT := fun ρ n P XP => F ρ n (fun a n1 => G ρ n1 (fun b n2 => f a b fun d => P d n2) XP) XP
theorem rd_op {r : R2} {f : D → D → (D → Prop) → Prop} {ta tb : TE} {F G : DT} (ho : Op2 K r f) (h1 : Rd K T S E ta F) (h2 : Rd K T S E tb G) : Rd K T S E (tOp r ta tb) (xOp f F G) := fun σ ρ Hb H n P XP Q w sl h q x =>
  h1 σ ρ Hb H n _ XP _ w sl h (fun d v n1 Hb1 H1 s hd p => h2 σ ρ Hb1 H1 n1 _ XP _ s.wd (sl.step s) p (fun e u n2 Hb2 H2 s2 he p2 => ho s2.wd (hd.up s2.ex) he p2 ((q.step s).step s2)) (x.step s)) x
def Op1 (K : PySem.W.Frag) (r : V → Hp → VK → Prop) (f : D → (D → Prop) → Prop) : Prop :=
  ∀ {T : Tb} {S : SA} {x : V} {a : D} {Hb H : Hp} {n : Nat} {P : DQ} {Q : VK}, World T S Hb H → Dn K Hb x a → f a (fun d => P d n) → VOk K T S Hb H n P Q → r x H Q
def xUn (f : D → (D → Prop) → Prop) (F : DT) : DT := fun ρ n P XP => F ρ n (fun a n1 => f a fun d => P d n1) XP
theorem rd_un {r : V → Hp → VK → Prop} {f : D → (D → Prop) → Prop} {ta : TE} {F : DT} (ho : Op1 K r f) (h1 : Rd K T S E ta F) : Rd K T S E (tUn r ta) (xUn f F) := fun σ ρ Hb H n P XP Q w sl h q x =>
  h1 σ ρ Hb H n _ XP _ w sl h (fun d v n1 Hb1 H1 s hd p => ho s.wd hd p (q.step s)) x
/-- a built-in's call on data -/
def Cal (K : PySem.W.Frag) (r : List V → Hp → VK → Prop) (f : List SV → (D → Prop) → Prop) : Prop :=
  ∀ {T : Tb} {S : SA} {vs : List V} {ss : List SV} {Hb H : Hp} {n : Nat} {P : DQ} {Q : VK}, World T S Hb H → Args K S Hb H n ss vs → f ss (fun d => P d n) → VOk K T S Hb H n P Q → r vs H Q
def xCB (f : List SV → (D → Prop) → Prop) (G : DTA) : DT := fun ρ n P XP => G ρ n (fun ss n1 => f ss fun d => P d n1) XP
theorem rd_cb {r : List V → Hp → VK → Prop} {f : List SV → (D → Prop) → Prop} {ta : TA} {G : DTA} (ho : Cal K r f) (h1 : RdA K T S E ta G) : Rd K T S E (tCB r ta) (xCB f G) := fun σ ρ Hb H n P XP Q w sl h q x =>
  h1 σ ρ Hb H n _ XP _ w sl h (fun ss vs n1 Hb1 H1 s ha p => ho s.wd ha p (q.step s)) x

/-! ### tests, and, or, not, if -/
def xB (F : DT) : DTT := fun ρ n P XP => F ρ n (fun d n1 => match d with | .bl b => P b n1 | _ => False) XP
theorem rdt_B {te : TE} {F : DT} (h1 : Rd K T S E te F) : RdT K T S E (tB te) (xB F) := fun σ ρ Hb H n P XP Q w sl h q x =>
  h1 σ ρ Hb H n _ XP _ w sl h (fun d v n1 Hb1 H1 s hd p => by
    cases d with
    | bl b => cases hd; exact ⟨b, rfl, q b n1 Hb1 H1 s p⟩
    | _ => exact p.elim) x
theorem rdt_test {te : TE} {F : DT} (h1 : Rd K T S E te F) : RdT K T S E (tTest te) (xB F) := fun σ ρ Hb H n P XP Q w sl h q x =>
  h1 σ ρ Hb H n _ XP _ w sl h (fun d v n1 Hb1 H1 s hd p => by
    cases d with
    | bl b => cases hd; exact ⟨b, rfl, q b n1 Hb1 H1 s p⟩
    | _ => exact p.elim) x
def xtAnd (F G : DTT) : DTT := fun ρ n P XP => F ρ n (fun b n1 => match b with | true => G ρ n1 P XP | false => P false n1) XP
def xtOr (F G : DTT) : DTT := fun ρ n P XP => F ρ n (fun b n1 => match b with | true => P true n1 | false => G ρ n1 P XP) XP
def xtNot (F : DTT) : DTT := fun ρ n P XP => F ρ n (fun b n1 => P (!b) n1) XP
variable {t u : TT} {F G : DTT} {te tf : TE} {FE GE : DT}
theorem BOk.step {Hb H Hb1 H1 : Hp} {n n1 : Nat} {P : Bool → Nat → Prop} {Q : Bool → Hp → Prop} (a : Stp K T S Hb H n Hb1 H1 n1) (h : BOk K T S Hb H n P Q) : BOk K T S Hb1 H1 n1 P Q := fun b n' Hb' H' s => h b n' Hb' H' (a.trans s)
theorem rdt_and (h1 : RdT K T S E t F) (h2 : RdT K T S E u G) : RdT K T S E (tAnd t u) (xtAnd F G) := fun σ ρ Hb H n P XP Q w sl h q x =>
  h1 σ ρ Hb H n _ XP _ w sl h (fun b n1 Hb1 H1 s p => by
    cases b with
    | true => exact iteT (h2 σ ρ Hb1 H1 n1 _ XP _ s.wd (sl.step s) p (q.step s) (x.step s))
    | false => exact iteF (q _ _ _ _ s p)) x
theorem rdt_or (h1 : RdT K T S E t F) (h2 : RdT K T S E u G) : RdT K T S E (tOr t u) (xtOr F G) := fun σ ρ Hb H n P XP Q w sl h q x =>
  h1 σ ρ Hb H n _ XP _ w sl h (fun b n1 Hb1 H1 s p => by
    cases b with
    | false => exact iteF (h2 σ ρ Hb1 H1 n1 _ XP _ s.wd (sl.step s) p (q.step s) (x.step s))
    | true => exact iteT (q _ _ _ _ s p)) x
theorem rdt_not (h1 : RdT K T S E t F) : RdT K T S E (tNot t) (xtNot F) := fun σ ρ Hb H n P XP Q w sl h q x =>
  h1 σ ρ Hb H n _ XP _ w sl h (fun b n1 Hb1 H1 s p => q _ _ _ _ s p) x
def xAndV (F G : DT) : DT := fun ρ n P XP => F ρ n (fun d n1 => match d with | .bl true => G ρ n1 P XP | .bl false => P (.bl false) n1 | _ => False) XP
def xOrV (F G : DT) : DT := fun ρ n P XP => F ρ n (fun d n1 => match d with | .bl true => P (.bl true) n1 | .bl false => G ρ n1 P XP | _ => False) XP
def xNotV (F : DT) : DT := fun ρ n P XP => F ρ n (fun d n1 => match d with | .bl b => P (.bl (!b)) n1 | _ => False) XP
theorem rd_andV (h1 : Rd K T S E te FE) (h2 : Rd K T S E tf GE) : Rd K T S E (tAndV te tf) (xAndV FE GE) := fun σ ρ Hb H n P XP Q w sl h q x =>
  h1 σ ρ Hb H n _ XP _ w sl h (fun d v n1 Hb1 H1 s hd p => by
    cases d with
    | bl b =>
      cases hd
      cases b with
      | true => exact ⟨true, rfl, iteT (h2 σ ρ Hb1 H1 n1 _ XP _ s.wd (sl.step s) p (q.step s) (x.step s))⟩
      | false => exact ⟨false, rfl, iteF (q _ _ _ _ _ s (.bl false) p)⟩
    | _ => exact p.elim) x
theorem rd_orV (h1 : Rd K T S E te FE) (h2 : Rd K T S E tf GE) : Rd K T S E (tOrV te tf) (xOrV FE GE) := fun σ ρ Hb H n P XP Q w sl h q x =>
  h1 σ ρ Hb H n _ XP _ w sl h (fun d v n1 Hb1 H1 s hd p => by
    cases d with
    | bl b =>
      cases hd
      cases b with
      | false => exact ⟨false, rfl, iteF (h2 σ ρ Hb1 H1 n1 _ XP _ s.wd (sl.step s) p (q.step s) (x.step s))⟩
      | true => exact ⟨true, rfl, iteT (q _ _ _ _ _ s (.bl true) p)⟩
    | _ => exact p.elim) x
theorem rd_notV (h1 : Rd K T S E te FE) : Rd K T S E (tNotV te) (xNotV FE) := fun σ ρ Hb H n P XP Q w sl h q x =>
  h1 σ ρ Hb H n _ XP _ w sl h (fun d v n1 Hb1 H1 s hd p => by
    cases d with
    | bl b => cases hd; exact ⟨b, rfl, q _ _ _ _ _ s (.bl _) p⟩
    | _ => exact p.elim) x
def xIf (F : DTT) (G1 G2 : DT) : DT := fun ρ n P XP => F ρ n (fun b n1 => match b with | true => G1 ρ n1 P XP | false => G2 ρ n1 P XP) XP
theorem rd_if {tb : TE} {G2 : DT} (h1 : RdT K T S E t F) (h2 : Rd K T S E te FE) (h3 : Rd K T S E tb G2) : Rd K T S E (tIf t te tb) (xIf F FE G2) := fun σ ρ Hb H n P XP Q w sl h q x =>
  h1 σ ρ Hb H n _ XP _ w sl h (fun b n1 Hb1 H1 s p => by
    cases b with
    | true => exact iteT (h2 σ ρ Hb1 H1 n1 _ XP _ s.wd (sl.step s) p (q.step s) (x.step s))
    | false => exact iteF (h3 σ ρ Hb1 H1 n1 _ XP _ s.wd (sl.step s) p (q.step s) (x.step s))) x

/-! ### tuples, lists as displays -/
def svD : SV → Option D
  | .d x => some x
  | _ => none
def allD : List SV → Option (List D)
  | [] => some []
  | s :: ss => match svD s, allD ss with
    | some d, some ds => some (d :: ds)
    | _, _ => none
theorem Args.allD {Hb H : Hp} {n : Nat} : ∀ {ss : List SV} {vs : List V} {ds : List D}, Args K S Hb H n ss vs → DL.allD ss = some ds → DnA K Hb vs ds
  | [], _, _, h, e => by
    cases h
    cases (Option.some.inj e)
    exact .nil
  | s :: ss, _, ds, h, e => by
    cases h with
    | cons h1 h2 =>
      unfold DL.allD at e
      cases s with
      | d x =>
        cases e2 : DL.allD ss with
        | none => rw [e2] at e; simp [svD] at e
        | some es =>
          rw [e2] at e
          simp [svD] at e
          subst e
          obtain ⟨v, q1, q2⟩ := h1
          cases q1
          exact .cons q2 (Args.allD h2 e2)
      | _ => simp [svD] at e
def xTup (G : DTA) : DT := fun ρ n P XP => G ρ n (fun ss n1 => ∃ ds, allD ss = some ds ∧ ds.length ≤ 100000 ∧ P (.tup ds) n1) XP
def xLst (G : DTA) : DT := fun ρ n P XP => G ρ n (fun ss n1 => ∃ ds, allD ss = some ds ∧ ds.length ≤ 100000 ∧ P (.lst ds) n1) XP
theorem rd_tup {ta : TA} {G : DTA} (h1 : RdA K T S E ta G) : Rd K T S E (tTup ta) (xTup G) := fun σ ρ Hb H n P XP Q w sl h q x =>
  h1 σ ρ Hb H n _ XP _ w sl h (fun ss vs n1 Hb1 H1 s ha p => by
    obtain ⟨ds, e, hl, p⟩ := p
    have hd := ha.allD e
    refine ⟨sz_of (by rw [hd.len]; exact hl), fun a hp => ?_⟩
    exact (q.step s).new s.wd hp (.tup (SqT.of upd_same) (hd.up (Ex.new (free_of s.wd.ex hp)))) p) x
theorem rd_lst {ta : TA} {G : DTA} (h1 : RdA K T S E ta G) : Rd K T S E (tLst ta) (xLst G) := fun σ ρ Hb H n P XP Q w sl h q x =>
  h1 σ ρ Hb H n _ XP _ w sl h (fun ss vs n1 Hb1 H1 s ha p => by
    obtain ⟨ds, e, hl, p⟩ := p
    have hd := ha.allD e
    refine ⟨sz_of (by rw [hd.len]; exact hl), fun a hp => ?_⟩
    exact (q.step s).new s.wd hp (.lst (SqL.of upd_same) (hd.up (Ex.new (free_of s.wd.ex hp)))) p) x
end
end DL

/-! operators, subscripts, built-in functions on data -/
namespace DL
open L2 PySem PySem.Spec PyProof.Rows
open Evl (Ex ex_l ex_t sz_of)
section
variable {K : PySem.W.Frag} {T : Tb} {S : SA} {E : XK} {Hb H : Hp} {n : Nat} {P : DQ} {Q : VK} {X : Cx}
theorem Op2.or {r r' : R2} {f : D → D → (D → Prop) → Prop} (h : ∀ {T : Tb} {S : SA} {x y : V} {a b : D} {Hb H : Hp} {n : Nat} {P : DQ} {Q : VK}, World T S Hb H → Dn K Hb x a → Dn K Hb y b → f a b (fun d => P d n) → VOk K T S Hb H n P Q → r x y H Q ∨ r' x y H Q) : Op2 K (fun x y H Q => r x y H Q ∨ r' x y H Q) f := h
/-- v as data of the heap as it stands -/
theorem World.dn (w : World T S Hb H) {v : V} {d : D} (h : Dn K Hb v d) : Dn K H v d := h.up w.ex
/-! ### + -/
def rAddU (K : PySem.W.Frag) : R2 := fun x y H Q => (rI0 (fun i j => .int (i + j))) x y H Q ∨ ((∃ i j, x = .str i ∧ y = .str j ∧ i.length + j.length ≤ sizeLine ∧ Q (.str (i ++ j)) H) ∨ rCatA K x y H Q)
theorem op_addU : OpR X (binaryOp .Add) (rAddU X.K) := OpR.or op_add (OpR.or op_add_str op_catA)
def addD : D → D → (D → Prop) → Prop
  | .int i, .int j, k => k (.int (i + j))
  | .str x, .str y, k => x.length + y.length ≤ 100000 ∧ k (.str (x ++ y))
  | .tup xs, .tup ys, k => xs.length + ys.length ≤ 100000 ∧ k (.tup (xs ++ ys))
  | _, _, _ => False
theorem o2_add : Op2 K (rAddU K) addD := by
  intro T S x y a b Hb H n P Q w hx hy h q
  cases hx with
  | int i =>
    cases hy with
    | int j => exact .inl ⟨i, j, rfl, rfl, q.now w (.int _) h⟩
    | _ => exact h.elim
  | str i =>
    cases hy with
    | str j => exact .inr (.inl ⟨i, j, rfl, rfl, sz_of h.1, q.now w (.str _) h.2⟩)
    | _ => exact h.elim
  | @tup a xs ds h1 h2 =>
    cases hy with
    | @tup b ys es h3 h4 =>
      obtain ⟨hl, h⟩ := h
      refine .inr (.inr ⟨a, b, xs, ys, rfl, rfl, ex_t w.ex h1, ex_t w.ex h3, sz_of (by rw [h2.len, h4.len]; exact hl), fun e => ?_, fun e e' => ?_, fun e e' p hp => ?_⟩)
      · subst e
        have z : ds = [] := by have := h2.len; simpa using this.symm
        subst z
        exact q.now w (.tup h3 h4) h
      · subst e'
        have z : es = [] := by have := h4.len; simpa using this.symm
        subst z
        rw [List.append_nil] at h
        exact q.now w (.tup h1 h2) h
      · exact q.new w hp (.tup (SqT.of upd_same) ((h2.app h4).up (Ex.new (free_of w.ex hp)))) h
    | _ => exact h.elim
  | _ => exact h.elim
def subD : D → D → (D → Prop) → Prop
  | .int i, .int j, k => k (.int (i - j))
  | _, _, _ => False
theorem o2_sub : Op2 K (rI0 fun i j => .int (i - j)) subD := by
  intro T S x y a b Hb H n P Q w hx hy h q
  cases hx with
  | int i =>
    cases hy with
    | int j => exact ⟨i, j, rfl, rfl, q.now w (.int _) h⟩
    | _ => exact h.elim
  | _ => exact h.elim
def intD (C : Int → Int → Prop) (g : Int → Int → Int) : D → D → (D → Prop) → Prop
  | .int i, .int j, k => C i j ∧ k (.int (g i j))
  | _, _, _ => False
theorem o2_int {C : Int → Int → Prop} {g : Int → Int → Int} : Op2 K (rI C fun i j => .int (g i j)) (intD C g) := by
  intro T S x y a b Hb H n P Q w hx hy h q
  cases hx with
  | int i =>
    cases hy with
    | int j => exact ⟨i, j, rfl, rfl, h.1, q.now w (.int _) h.2⟩
    | _ => exact h.elim
  | _ => exact h.elim
def cmpD (g : Int → Int → Bool) : D → D → (D → Prop) → Prop
  | .int i, .int j, k => k (.bl (g i j))
  | _, _, _ => False
theorem o2_cmp {g : Int → Int → Bool} : Op2 K (rI0 fun i j => .bl (g i j)) (cmpD g) := by
  intro T S x y a b Hb H n P Q w hx hy h q
  cases hx with
  | int i =>
    cases hy with
    | int j => exact ⟨i, j, rfl, rfl, q.now w (.bl _) h⟩
    | _ => exact h.elim
  | _ => exact h.elim
/-! ### * : of ints, a tuple times an int -/
def rMulU (K : PySem.W.Frag) : R2 := fun x y H Q => (rI CMul (fun i j => .int (i * j))) x y H Q ∨ rRepT K x y H Q
theorem op_mulU : OpR X (binaryOp .Mult) (rMulU X.K) := OpR.or op_mul op_repT
def mulD : D → D → (D → Prop) → Prop
  | .int i, .int j, k => CMul i j ∧ k (.int (i * j))
  | .tup xs, .int j, k => xs ≠ [] ∧ 2 ≤ j ∧ j ≤ 1000 ∧ xs.length ≤ 1000 ∧ k (.tup (List.replicate j.toNat xs).flatten)
  | _, _, _ => False
theorem DnA.rep {vs : List V} {ds : List D} (h : DnA K H vs ds) : ∀ m : Nat, DnA K H (List.replicate m vs).flatten (List.replicate m ds).flatten
  | 0 => .nil
  | m + 1 => by
    rw [List.replicate_succ, List.replicate_succ, List.flatten_cons, List.flatten_cons]
    exact h.app (DnA.rep h m)
theorem o2_mul : Op2 K (rMulU K) mulD := by
  intro T S x y a b Hb H n P Q w hx hy h q
  cases hx with
  | int i =>
    cases hy with
    | int j => exact .inl ⟨i, j, rfl, rfl, h.1, q.now w (.int _) h.2⟩
    | _ => exact h.elim
  | @tup a xs ds h1 h2 =>
    cases hy with
    | int j =>
      obtain ⟨h3, h4, h5, h6, h⟩ := h
      refine .inr ⟨a, j, xs, rfl, rfl, ex_t w.ex h1, fun e => h3 (by subst e; have := h2.len; simpa using this.symm), h4, h5, by rw [h2.len]; exact h6, fun p hp => ?_⟩
      exact q.new w hp (.tup (SqT.of upd_same) ((h2.rep _).up (Ex.new (free_of w.ex hp)))) h
    | _ => exact h.elim
  | _ => exact h.elim
/-! ### ==, !=, is None -/
mutual
def toP : D → Option PyData
  | .non => some .none
  | .bl b => some (.bool b)
  | .int i => some (.int i)
  | .str x => some (.str x)
  | .lst ds => (toPs ds).map .list
  | .tup ds => (toPs ds).map .tuple
  | _ => none
def toPs : List D → Option (List PyData)
  | [] => some []
  | d :: ds => match toP d, toPs ds with
    | some p, some ps => some (p :: ps)
    | _, _ => none
end
mutual
theorem Dn.toDp : ∀ (d : D) {v : V} {p : PyData}, Dn K H v d → toP d = some p → Dp K H v p
  | .non, _, _, h, e => by cases h; cases e; exact .non
  | .bl b, _, _, h, e => by cases h; cases e; exact .bl b
  | .int i, _, _, h, e => by cases h; cases e; exact .int i
  | .str x, _, _, h, e => by cases h; cases e; exact .str x
  | .lst ds, _, p, h, e => by
    cases h with
    | lst h1 h2 =>
      unfold toP at e
      cases e2 : toPs ds with
      | none => rw [e2] at e; cases e
      | some ps =>
        rw [e2] at e
        cases e
        exact .lst h1 (DnA.toDp ds h2 e2)
  | .tup ds, _, p, h, e => by
    cases h with
    | tup h1 h2 =>
      unfold toP at e
      cases e2 : toPs ds with
      | none => rw [e2] at e; cases e
      | some ps =>
        rw [e2] at e
        cases e
        exact .tup h1 (DnA.toDp ds h2 e2)
  | .dic _ _, _, _, h, e => by unfold toP at e; cases e
  | .dit _ _, _, _, h, e => by unfold toP at e; cases e
  | .ins _ _ _, _, _, h, e => by unfold toP at e; cases e
  | .exc _ _ _, _, _, h, e => by unfold toP at e; cases e
  | .fnv _, _, _, h, e => by unfold toP at e; cases e
theorem DnA.toDp : ∀ (ds : List D) {vs : List V} {ps : List PyData}, DnA K H vs ds → toPs ds = some ps → DpAll K H vs ps
  | [], _, _, h, e => by cases h; cases e; exact .nil
  | d :: ds, _, ps, h, e => by
    cases h with
    | cons h1 h2 =>
      unfold toPs at e
      cases e1 : toP d with
      | none => rw [e1] at e; cases e
      | some p =>
        cases e2 : toPs ds with
        | none => rw [e1, e2] at e; cases e
        | some qs =>
          rw [e1, e2] at e
          cases e
          exact .cons (Dn.toDp d h1 e1) (DnA.toDp ds h2 e2)
end
/-- == of what is no object -/
def eqP (f : Bool → Bool) : D → D → (D → Prop) → Prop
  | .int i, .int j, k => k (.bl (f (decide (i = j))))
  | .bl i, .bl j, k => k (.bl (f (decide (i = j))))
  | .str i, .str j, k => k (.bl (f (decide (i = j))))
  | a, b, k => ∃ p q, toP a = some p ∧ toP b = some q ∧ SeqAt.shaped p = true ∧ SeqAt.shaped q = true ∧ k (.bl (f (PyData.eqv p q)))
def eqD : D → D → (D → Prop) → Prop := eqP id
def neD : D → D → (D → Prop) → Prop := eqP not
theorem eqP_int {f : Bool → Bool} {i j : Int} {k : D → Prop} : eqP f (.int i) (.int j) k = k (.bl (f (decide (i = j)))) := rfl
theorem eqP_bl {f : Bool → Bool} {i j : Bool} {k : D → Prop} : eqP f (.bl i) (.bl j) k = k (.bl (f (decide (i = j)))) := rfl
theorem eqP_str {f : Bool → Bool} {i j : Str} {k : D → Prop} : eqP f (.str i) (.str j) k = k (.bl (f (decide (i = j)))) := rfl
def rEqU (K : PySem.W.Frag) : R2 := fun x y H Q => rEq x y H Q ∨ rEqD K x y H Q
def rNeU (K : PySem.W.Frag) : R2 := fun x y H Q => rNe x y H Q ∨ rNeD K x y H Q
theorem op_eqU {X : Cx} (hu : X.A.units + 64 < cLine) : OpR X (compareOp .Eq) (rEqU X.K) := fun pins s σ H x y u v Q I rx ry h => h.elim (op_eq pins s σ H x y u v Q I rx ry) (op_eqD hu pins s σ H x y u v Q I rx ry)
theorem op_neU {X : Cx} (hu : X.A.units + 64 < cLine) : OpR X (compareOp .NotEq) (rNeU X.K) := fun pins s σ H x y u v Q I rx ry h => h.elim (op_ne pins s σ H x y u v Q I rx ry) (op_neD hu pins s σ H x y u v Q I rx ry)
theorem decI {i j : Int} : decide (V.int i = V.int j) = decide (i = j) := by simp
theorem decB {i j : Bool} : decide (V.bl i = V.bl j) = decide (i = j) := by simp
theorem decS {i j : Str} : decide (V.str i = V.str j) = decide (i = j) := by simp
theorem o2_eq : Op2 K (rEqU K) eqD := by
  intro T S x y a b Hb H n P Q w hx hy h q
  unfold eqD eqP at h
  split at h
  · cases hx
    cases hy
    exact .inl ⟨rfl, q.now w (.bl _) (by rw [decI]; exact h)⟩
  · cases hx
    cases hy
    exact .inl ⟨rfl, q.now w (.bl _) (by rw [decB]; exact h)⟩
  · cases hx
    cases hy
    exact .inl ⟨rfl, q.now w (.bl _) (by rw [decS]; exact h)⟩
  · obtain ⟨p, r, e1, e2, s1, s2, h⟩ := h
    exact .inr ⟨p, r, Dn.toDp _ (w.dn hx) e1, Dn.toDp _ (w.dn hy) e2, s1, s2, q.now w (.bl _) h⟩
theorem o2_ne : Op2 K (rNeU K) neD := by
  intro T S x y a b Hb H n P Q w hx hy h q
  unfold neD eqP at h
  split at h
  · cases hx
    cases hy
    exact .inl ⟨rfl, q.now w (.bl _) (by rw [decI]; exact h)⟩
  · cases hx
    cases hy
    exact .inl ⟨rfl, q.now w (.bl _) (by rw [decB]; exact h)⟩
  · cases hx
    cases hy
    exact .inl ⟨rfl, q.now w (.bl _) (by rw [decS]; exact h)⟩
  · obtain ⟨p, r, e1, e2, s1, s2, h⟩ := h
    exact .inr ⟨p, r, Dn.toDp _ (w.dn hx) e1, Dn.toDp _ (w.dn hy) e2, s1, s2, q.now w (.bl _) h⟩
/-! ### in, not in -/
def inD : D → D → (D → Prop) → Prop := fun a b k => ∃ (i : Int) (ns : List Int), a = .int i ∧ b = .tup (ns.map .int) ∧ k (.bl (ns.any (· == i)))
theorem o2_in : Op2 K (rIn K false) inD := by
  intro T S x y a b Hb H n P Q w hx hy h q
  obtain ⟨i, ns, rfl, rfl, h⟩ := h
  cases hx
  cases hy with
  | @tup a xs ds h1 h2 =>
    have ev : ∀ {ns : List Int} {xs : List V}, DnA K Hb xs (ns.map D.int) → xs = ns.map V.int := by
      intro ns
      induction ns with
      | nil => intro xs h; cases h; rfl
      | cons m ns ih =>
        intro xs h
        cases h with
        | cons h1 h2 =>
          cases h1
          rw [ih h2]
          rfl
    have e := ev h2
    subst e
    refine ⟨a, _, rfl, .inr (ex_t w.ex h1), rfl, ?_, ?_⟩
    · simp [List.all_map]; intro x hx; rfl
    · refine q.now w (.bl _) ?_
      have ei : inV (V.int i) (ns.map V.int) = ns.any (· == i) := by
        unfold inV
        rw [List.any_map]
        rfl
      show P (.bl (if false = true then !inV (V.int i) (ns.map V.int) else inV (V.int i) (ns.map V.int))) n
      rw [if_neg Bool.false_ne_true, ei]
      exact h
def isNon : D → Bool
  | .non => true
  | _ => false
theorem Dn.isN {v : V} {d : D} (h : Dn K H v d) : decide (v = .non) = isNon d := by cases h <;> simp [isNon]
def isD : D → D → (D → Prop) → Prop := fun a b k => b = .non ∧ k (.bl (isNon a))
def isnD : D → D → (D → Prop) → Prop := fun a b k => b = .non ∧ k (.bl (!isNon a))
theorem o2_isN : Op2 K (fun x y H Q => y = .non ∧ Q (.bl (decide (x = .non))) H) isD := by
  intro T S x y a b Hb H n P Q w hx hy h q
  obtain ⟨rfl, h⟩ := h
  cases hy
  exact ⟨rfl, q.now w (.bl _) (by rw [hx.isN]; exact h)⟩
theorem o2_notN : Op2 K (fun x y H Q => y = .non ∧ Q (.bl (!decide (x = .non))) H) isnD := by
  intro T S x y a b Hb H n P Q w hx hy h q
  obtain ⟨rfl, h⟩ := h
  cases hy
  exact ⟨rfl, q.now w (.bl _) (by rw [hx.isN]; exact h)⟩
/-! ### in, not in: flat things in a list or a tuple -/
def flatD : D → Bool
  | .non | .bl _ | .int _ | .str _ => true
  | _ => false
/-! ### a <= b <= c -/
def xChain (f g : D → D → (D → Prop) → Prop) (F G I : DT) : DT := fun ρ n P XP => F ρ n (fun a n1 => G ρ n1 (fun b n2 => f a b fun d => match d with
  | .bl true => I ρ n2 (fun c n3 => g b c fun d => P d n3) XP
  | .bl false => P (.bl false) n2
  | _ => False) XP) XP
theorem rd_chain {r r' : R2} {f g : D → D → (D → Prop) → Prop} {ta tb tc : TE} {F G I : DT} (ho : Op2 K r f) (ho' : Op2 K r' g) (h1 : DL.Rd K T S E ta F) (h2 : DL.Rd K T S E tb G) (h3 : DL.Rd K T S E tc I) : DL.Rd K T S E (tChain r r' ta tb tc) (xChain f g F G I) := fun σ ρ Hb H n P XP Q w sl h q x =>
  h1 σ ρ Hb H n _ XP _ w sl h (fun d v n1 Hb1 H1 s hd p => h2 σ ρ Hb1 H1 n1 _ XP _ s.wd (sl.step s) p (fun e u n2 Hb2 H2 s2 he p2 => by
    refine ho (S := S) (P := fun d n => match d with
      | .bl true => I ρ n (fun c n3 => g e c fun d => P d n3) XP
      | .bl false => P (.bl false) n
      | _ => False) s2.wd (hd.up s2.ex) he p2 fun d3 v3 n3 Hb3 H3 s3 hd3 p3 => ?_
    cases d3 with
    | bl b =>
      cases hd3
      have st := (s.trans s2).trans s3
      cases b with
      | true =>
        refine ⟨true, rfl, iteT ?_⟩
        refine h3 σ ρ Hb3 H3 n3 _ XP _ s3.wd (sl.step st) p3 (fun c z n4 Hb4 H4 s4 hc p4 => ?_) (x.step st)
        exact ho' s4.wd ((he.up s3.ex).up s4.ex) hc p4 ((q.step st).step s4)
      | false => exact ⟨false, rfl, iteF (q _ _ _ _ _ st (.bl false) p3)⟩
    | _ => exact p3.elim) (x.step s)) x
/-! ### subscripts -/
def atD (xs : List D) (i : Int) : Option D := (ixN xs.length i).bind fun j => xs[j]?
theorem DnA.at {vs : List V} {ds : List D} {i : Int} {d : D} (h : DnA K H vs ds) (e : atD ds i = some d) : ∃ v, atI vs i = some v ∧ Dn K H v d := by
  unfold atD at e
  cases e1 : ixN ds.length i with
  | none => rw [e1] at e; cases e
  | some j =>
    rw [e1] at e
    obtain ⟨v, e2, hv⟩ := h.get (i := j) (by simpa using e)
    exact ⟨v, by unfold atI; rw [h.len, e1]; simpa using e2, hv⟩
def ixD : D → D → (D → Prop) → Prop
  | .lst xs, .int i, k => ∃ d, atD xs i = some d ∧ k d
  | .tup xs, .int i, k => ∃ d, atD xs i = some d ∧ k d
  | _, _, _ => False
theorem o2_ix : Op2 K (rIx K) ixD := by
  intro T S x y a b Hb H n P Q w hx hy h q
  cases hx with
  | @lst a xs ds h1 h2 =>
    cases hy with
    | int j =>
      obtain ⟨d, e, h⟩ := h
      obtain ⟨v, e2, hv⟩ := h2.at e
      exact .inl ⟨a, xs, j, v, rfl, rfl, ex_l w.ex h1, e2, q.now w hv h⟩
    | _ => exact h.elim
  | @tup a xs ds h1 h2 =>
    cases hy with
    | int j =>
      obtain ⟨d, e, h⟩ := h
      obtain ⟨v, e2, hv⟩ := h2.at e
      exact .inr (.inl ⟨a, xs, j, v, rfl, rfl, ex_t w.ex h1, e2, q.now w hv h⟩)
    | _ => exact h.elim
  | _ => exact h.elim
/-- d[k], the key in d -/
def keyD : D → Option Key
  | .int i => some (.inl i)
  | .str x => some (.inr x)
  | _ => none
def valD (ks : List Key) (ds : List D) (k : Key) : Option D := match ks, ds with
  | k' :: ks, d :: ds => if k' = k then some d else valD ks ds k
  | _, _ => none
theorem val_of : ∀ {kvs : List (Key × V)} {ks : List Key} {ds : List D} {k : Key} {d : D}, kvs.map (·.1) = ks → DnA K H (kvs.map (·.2)) ds → valD ks ds k = some d → ∃ v, valV kvs k = some v ∧ Dn K H v d
  | [], _, ds, k, d, e, h, g => by
    subst e
    unfold valD at g
    simp at g
  | (k', v) :: kvs, _, ds, k, d, e, h, g => by
    subst e
    cases h with
    | @cons _ _ d0 ds0 h1 h2 =>
      have g : (if k' = k then some d0 else valD (kvs.map (·.1)) ds0 k) = some d := g
      by_cases hk : k' = k
      · rw [if_pos hk] at g
        cases g
        exact ⟨v, by simp [valV, hk], h1⟩
      · rw [if_neg hk] at g
        obtain ⟨v', e2, h3⟩ := val_of (ks := kvs.map (·.1)) rfl h2 g
        refine ⟨v', ?_, h3⟩
        unfold valV at e2 ⊢
        rw [List.find?_cons_of_neg (by simpa using hk)]
        exact e2
def xDGet (F G : DT) : DT := fun ρ n P XP => F ρ n (fun a n1 => G ρ n1 (fun b n2 => match a with
  | .dic ks ds => ∃ k d, keyD b = some k ∧ valD ks ds k = some d ∧ P d n2
  | _ => False) XP) XP
theorem rd_dget {ta tb : TE} {F G : DT} (h1 : DL.Rd K T S E ta F) (h2 : DL.Rd K T S E tb G) : DL.Rd K T S E (tDGet ta tb) (xDGet F G) := fun σ ρ Hb H n P XP Q w sl h q x =>
  h1 σ ρ Hb H n _ XP _ w sl h (fun d v n1 Hb1 H1 s hd p => h2 σ ρ Hb1 H1 n1 _ XP _ s.wd (sl.step s) p (fun e u n2 Hb2 H2 s2 he p2 => by
    cases d with
    | dic ks ds =>
      obtain ⟨k, d, e1, e2, p2⟩ := p2
      cases hd with
      | @dic a kvs ks ds g1 g2 g3 =>
        obtain ⟨v, e3, hv⟩ := val_of g2 (g3.up s2.ex) e2
        have ek : u = kV k := by
          cases e with
          | int i => cases he; cases e1; rfl
          | str i => cases he; cases e1; rfl
          | _ => cases e1
        refine ⟨a, v, rfl, ?_, ?_⟩
        · rw [ek, ← e3]
          exact DGet.k (s2.wd.ex _ _ (s2.ex _ _ g1))
        · exact q _ _ _ _ _ (s.trans s2) hv p2
    | _ => exact p2.elim) (x.step s)) x
/-! ### slices of tuples and lists -/
def cutD (xs : List D) (lo hi : Option Int) : List D := (xs.drop (HT.sIx xs.length 0 lo)).take (HT.sIx xs.length xs.length hi - HT.sIx xs.length 0 lo)
theorem DnA.cut {vs : List V} {ds : List D} (h : DnA K H vs ds) (lo hi : Option Int) : DnA K H (cutV vs lo hi) (cutD ds lo hi) := by
  unfold cutV cutD
  rw [h.len]
  exact (h.drop _).take _
def rSlU (K : PySem.W.Frag) : V → Option Int → Option Int → Hp → VK → Prop := fun x lo hi H Q => rSlL K x lo hi H Q ∨ (rSlA K x lo hi H Q ∨ rSlS x lo hi H Q)
theorem sl_U : SlR X (rSlU X.K) := SlR.or sl_list (SlR.or sl_tupA sl_str)
def slD : D → Option Int → Option Int → (D → Prop) → Prop
  | .lst xs, lo, hi, k => k (.lst (cutD xs lo hi))
  | .tup xs, lo, hi, k => k (.tup (cutD xs lo hi))
  | .str z, lo, hi, k => z.length ≤ 100000 ∧ k (.str (cutS z lo hi))
  | _, _, _, _ => False
abbrev DTO := List SV → Nat → (Option Int → Nat → Prop) → DX → Prop
def RdO (K : PySem.W.Frag) (T : Tb) (S : SA) (E : XK) (to : TO) (F : DTO) : Prop :=
  ∀ σ ρ Hb H n P XP (Q : Option Int → Hp → Prop), World T S Hb H → Slots K S Hb H n ρ σ → F ρ n P XP → (∀ o n' Hb' H', Stp K T S Hb H n Hb' H' n' → P o n' → Q o H') → XOk K T S Hb H n XP E → to σ H Q
def xoNone : DTO := fun _ n P _ => P none n
def xoSome (F : DT) : DTO := fun ρ n P XP => F ρ n (fun d n1 => match d with | .int i => P (some i) n1 | _ => False) XP
theorem rdo_none : RdO K T S E tNoPart xoNone := fun σ ρ Hb H n P XP Q w sl h q _ => q none n Hb H (.refl w) h
theorem rdo_some {te : TE} {F : DT} (h1 : DL.Rd K T S E te F) : RdO K T S E (tPart te) (xoSome F) := fun σ ρ Hb H n P XP Q w sl h q x =>
  h1 σ ρ Hb H n _ XP _ w sl h (fun d v n1 Hb1 H1 s hd p => by
    cases d with
    | int i => cases hd; exact ⟨i, rfl, q _ _ _ _ s p⟩
    | _ => exact p.elim) x
def xSl (F : DT) (G I : DTO) : DT := fun ρ n P XP => F ρ n (fun a n1 => G ρ n1 (fun lo n2 => I ρ n2 (fun hi n3 => slD a lo hi fun d => P d n3) XP) XP) XP
theorem rd_sl {te : TE} {tl th : TO} {F : DT} {G I : DTO} (h1 : DL.Rd K T S E te F) (h2 : RdO K T S E tl G) (h3 : RdO K T S E th I) : DL.Rd K T S E (tSl (rSlU K) te tl th) (xSl F G I) := fun σ ρ Hb H n P XP Q w sl h q x =>
  h1 σ ρ Hb H n _ XP _ w sl h (fun d v n1 Hb1 H1 s hd p => h2 σ ρ Hb1 H1 n1 _ XP _ s.wd (sl.step s) p (fun lo n2 Hb2 H2 s2 p2 => h3 σ ρ Hb2 H2 n2 _ XP _ s2.wd ((sl.step s).step s2) p2 (fun hi n3 Hb3 H3 s3 p3 => by
    have st := (s.trans s2).trans s3
    have hd3 := (hd.up s2.ex).up s3.ex
    have q3 := q.step st
    cases hd3 with
    | @lst a xs ds g1 g2 => exact .inl ⟨a, xs, rfl, ex_l s3.wd.ex g1, fun p hp => q3.new s3.wd hp (.lst (SqL.of upd_same) ((g2.cut lo hi).up (Ex.new (free_of s3.wd.ex hp)))) p3⟩
    | @tup a xs ds g1 g2 =>
      refine .inr (.inl ⟨a, xs, rfl, ex_t s3.wd.ex g1, fun e => ?_, fun _ p hp => q3.new s3.wd hp (.tup (SqT.of upd_same) ((g2.cut lo hi).up (Ex.new (free_of s3.wd.ex hp)))) p3⟩)
      have z : cutD ds lo hi = ds := by
        unfold cutD
        rw [← g2.len, e.1, e.2, g2.len]
        simp
      have p3 : P (.tup (cutD ds lo hi)) n3 := p3
      rw [z] at p3
      exact q3.now s3.wd (.tup g1 g2) p3
    | str z => exact .inr (.inr ⟨z, rfl, sz_of p3.1, q3.now s3.wd (.str _) p3.2⟩)
    | _ => exact p3.elim) ((x.step s).step s2)) (x.step s)) x
end
end DL

/-! repr, isinstance, len, all, tuple, list, int, abs on data -/
namespace DL
open L2 PySem PySem.Spec PyProof.Rows
open Evl (Ex ex_l ex_t sz_of)
section
variable {K : PySem.W.Frag} {T : Tb} {S : SA} {E : XK} {Hb H : Hp} {n : Nat} {P : DQ} {Q : VK} {X : Cx}
/-! ### repr -/
def okR (d : PyData) : Prop := d.showable = true ∧ d.hasDict = false ∧ d.depth ≤ 60 ∧ d.shown.length ≤ 100000
def rRepr (K : PySem.W.Frag) : List V → Hp → VK → Prop := fun xs H Q => ∃ v d, xs = [v] ∧ Dp K H v d ∧ okR d ∧ Q (.str d.shown) H
theorem call_repr (hg : X.A.guards = some []) (hu : X.A.units + 64 < cLine) : CallR X (.builtin "repr") (rRepr X.K) := by
  intro pins s σ H xs us Q I r h
  obtain ⟨v, d, rfl, hd, ⟨h1, h2, h3, h4⟩, q⟩ := h
  obtain ⟨u, rfl, ru⟩ : ∃ u, us = [u] ∧ RelV v u := by
    cases r with
    | cons a b => cases b; exact ⟨_, rfl, a⟩
  have seqs : ∀ a, u = .ref a → isDisplay d = true → wpAny (model X.prog X.w) X.A (call (.builtin "repr") [u]) (EP X pins σ Q) X.xe s := fun a e _ => by
    subst e
    obtain ⟨as, rd⟩ := Dp.reads I d v _ hd ru
    refine repr_of_reads' rd h1 (PyData.noDict_hsm h2) hg (by omega) (fun _ _ e => e) (fun h' u tk hk => ?_) (sz_of h4)
    exact ⟨.str d.shown, H, I.kept (h' := h') (t' := tk) hk, ⟨_, rfl⟩, q⟩
  cases hd with
  | non => cases ru; exact PySem.P.repr_of_none ⟨.str _, H, I.tok _, ⟨_, rfl⟩, q⟩
  | bl b => cases ru; exact PySem.P.repr_of_bool ⟨.str _, H, I.tok _, ⟨_, rfl⟩, q⟩
  | int i =>
    obtain ⟨t, rfl⟩ := ru
    exact PySem.P.repr_of_int (by simpa [PyData.showable] using h1) ⟨.str _, H, I.tok _, ⟨_, rfl⟩, q⟩
  | str x =>
    obtain ⟨t, rfl⟩ := ru
    exact PySem.P.repr_of_str ⟨.str _, H, I.tok _, ⟨_, rfl⟩, q⟩ (sz_of h4)
  | lst a b => exact seqs _ ru rfl
  | tup a b => exact seqs _ ru rfl
def reprD : List SV → (D → Prop) → Prop
  | [.d d], k => ∃ p, toP d = some p ∧ okR p ∧ k (.str p.shown)
  | _, _ => False
theorem cal_repr : Cal K (rRepr K) reprD := by
  intro T S vs ss Hb H n P Q w ha h q
  cases ha with
  | nil => exact h.elim
  | @cons s v ss vs h1 h2 =>
    cases h2 with
    | cons _ _ => cases s <;> exact h.elim
    | nil =>
      cases s with
      | d d =>
        obtain ⟨p, e, ok, h⟩ := h
        obtain ⟨v', e', hv⟩ := h1
        cases e'
        exact ⟨v, p, rfl, Dn.toDp d (w.dn hv) e, ok, q.now w (.str _) h⟩
      | _ => exact h.elim
/-- one argument that is data -/
def one1 (f : D → (D → Prop) → Prop) : List SV → (D → Prop) → Prop
  | [.d d], k => f d k
  | _, _ => False
theorem cal_one {r : List V → Hp → VK → Prop} {f : D → (D → Prop) → Prop} (h : ∀ {T : Tb} {S : SA} {v : V} {d : D} {Hb H : Hp} {n : Nat} {P : DQ} {Q : VK}, World T S Hb H → Dn K Hb v d → f d (fun d => P d n) → VOk K T S Hb H n P Q → r [v] H Q) : Cal K r (one1 f) := by
  intro T S vs ss Hb H n P Q w ha hf q
  cases ha with
  | nil => exact hf.elim
  | @cons s v ss vs h1 h2 =>
    cases h2 with
    | cons _ _ => cases s <;> exact hf.elim
    | nil =>
      cases s with
      | d d =>
        obtain ⟨v', e', hv⟩ := h1
        cases e'
        exact h w hv hf q
      | _ => exact hf.elim
def two2 (f : D → D → (D → Prop) → Prop) : List SV → (D → Prop) → Prop
  | [.d a, .d b], k => f a b k
  | _, _ => False
theorem cal_two {r : List V → Hp → VK → Prop} {f : D → D → (D → Prop) → Prop} (h : ∀ {T : Tb} {S : SA} {v u : V} {a b : D} {Hb H : Hp} {n : Nat} {P : DQ} {Q : VK}, World T S Hb H → Dn K Hb v a → Dn K Hb u b → f a b (fun d => P d n) → VOk K T S Hb H n P Q → r [v, u] H Q) : Cal K r (two2 f) := by
  intro T S vs ss Hb H n P Q w ha hf q
  cases ha with
  | nil => exact hf.elim
  | @cons s v ss vs h1 h2 =>
    cases h2 with
    | nil => cases s <;> exact hf.elim
    | @cons s' v' ss' vs' h3 h4 =>
      cases h4 with
      | cons _ _ => cases s <;> first | exact hf.elim | (cases s' <;> exact hf.elim)
      | nil =>
        cases s with
        | d d =>
          cases s' with
          | d e =>
            obtain ⟨_, e1, hv⟩ := h1
            obtain ⟨_, e2, hu⟩ := h3
            cases e1
            cases e2
            exact h w hv hu hf q
          | _ => exact hf.elim
        | _ => exact hf.elim
/-! ### len -/
def rLenU (K : PySem.W.Frag) : List V → Hp → VK → Prop := fun xs H Q => (∃ p ys, xs = [.ref p] ∧ (SqL K H p ys ∨ SqT K H p ys) ∧ Q (.int ys.length) H) ∨ ∃ z, xs = [.str z] ∧ z.length ≤ sizeLine ∧ Q (.int z.length) H
theorem call_lenU : CallR X (.builtin "len") (rLenU X.K) := CallR.or call_len_seq call_len_str
def lenD : D → (D → Prop) → Prop
  | .lst xs, k => k (.int xs.length)
  | .tup xs, k => k (.int xs.length)
  | .str z, k => z.length ≤ 100000 ∧ k (.int z.length)
  | _, _ => False
theorem cal_len : Cal K (rLenU K) (one1 lenD) := by
  refine cal_one ?_
  intro T S v d Hb H n P Q w hv h q
  cases hv with
  | lst h1 h2 => exact .inl ⟨_, _, rfl, .inl (ex_l w.ex h1), q.now w (.int _) (by rw [h2.len]; exact h)⟩
  | tup h1 h2 => exact .inl ⟨_, _, rfl, .inr (ex_t w.ex h1), q.now w (.int _) (by rw [h2.len]; exact h)⟩
  | str z => exact .inr ⟨_, rfl, sz_of h.1, q.now w (.int _) h.2⟩
  | _ => exact h.elim
/-! ### all, any -/
def blsD : List D → Option (List Bool)
  | [] => some []
  | .bl b :: ds => (blsD ds).map (b :: ·)
  | _ :: _ => none
theorem bls_of : ∀ {ds : List D} {vs : List V} {bs : List Bool}, DnA K H vs ds → blsD ds = some bs → vs = bs.map V.bl
  | [], _, bs, h, e => by cases h; cases e; rfl
  | d :: ds, _, bs, h, e => by
    cases h with
    | cons h1 h2 =>
      cases d with
      | bl b =>
        unfold blsD at e
        cases e2 : blsD ds with
        | none => rw [e2] at e; cases e
        | some cs =>
          rw [e2] at e
          cases e
          cases h1
          rw [bls_of h2 e2]
          rfl
      | _ => cases e
def allD' : D → (D → Prop) → Prop
  | .lst xs, k => ∃ bs, blsD xs = some bs ∧ k (.bl (bs.all id))
  | _, _ => False
def anyD' : D → (D → Prop) → Prop
  | .lst xs, k => ∃ bs, blsD xs = some bs ∧ k (.bl (bs.any id))
  | _, _ => False
theorem cal_all : Cal K (rAll K) (one1 allD') := by
  refine cal_one ?_
  intro T S v d Hb H n P Q w hv h q
  cases hv with
  | lst h1 h2 =>
    obtain ⟨bs, e, h⟩ := h
    refine ⟨_, bs, rfl, ?_, q.now w (.bl _) h⟩
    rw [← bls_of h2 e]
    exact ex_l w.ex h1
  | _ => exact h.elim
theorem cal_any : Cal K (rAny K) (one1 anyD') := by
  refine cal_one ?_
  intro T S v d Hb H n P Q w hv h q
  cases hv with
  | lst h1 h2 =>
    obtain ⟨bs, e, h⟩ := h
    refine ⟨_, bs, rfl, ?_, q.now w (.bl _) h⟩
    rw [← bls_of h2 e]
    exact ex_l w.ex h1
  | _ => exact h.elim
/-! ### tuple, list -/
def rTupOf (K : PySem.W.Frag) : List V → Hp → VK → Prop := fun xs H Q => ∃ p ys, xs = [.ref p] ∧ ((SqL K H p ys ∧ ∀ l, H l = none → Q (.ref l) (upd H l (.tup ys))) ∨ (SqT K H p ys ∧ Q (.ref p) H))
def tupD : D → (D → Prop) → Prop
  | .lst xs, k => k (.tup xs)
  | .tup xs, k => k (.tup xs)
  | _, _ => False
theorem call_tupU : CallR X (.type "tuple") (rTupOf X.K) := call_tuple_of
theorem cal_tuple : Cal K (rTupOf K) (one1 tupD) := by
  refine cal_one ?_
  intro T S v d Hb H n P Q w hv h q
  cases hv with
  | lst h1 h2 => exact ⟨_, _, rfl, .inl ⟨ex_l w.ex h1, fun p hp => q.new w hp (.tup (SqT.of upd_same) (h2.up (Ex.new (free_of w.ex hp)))) h⟩⟩
  | tup h1 h2 => exact ⟨_, _, rfl, .inr ⟨ex_t w.ex h1, q.now w (.tup h1 h2) h⟩⟩
  | _ => exact h.elim
def lstD : D → (D → Prop) → Prop
  | .lst xs, k => k (.lst xs)
  | .tup xs, k => k (.lst xs)
  | _, _ => False
def rListU (K : PySem.W.Frag) : List V → Hp → VK → Prop := fun xs H Q => ∃ p ys, xs = [.ref p] ∧ (SqL K H p ys ∨ SqT K H p ys) ∧ ∀ l, H l = none → Q (.ref l) (upd H l (.lst ys))
theorem call_rListU : CallR X (.type "list") (rListU X.K) := call_list_of
theorem cal_list : Cal K (rListU K) (one1 lstD) := by
  refine cal_one ?_
  intro T S v d Hb H n P Q w hv h q
  cases hv with
  | lst h1 h2 => exact ⟨_, _, rfl, .inl (ex_l w.ex h1), fun p hp => q.new w hp (.lst (SqL.of upd_same) (h2.up (Ex.new (free_of w.ex hp)))) h⟩
  | tup h1 h2 => exact ⟨_, _, rfl, .inr (ex_t w.ex h1), fun p hp => q.new w hp (.lst (SqL.of upd_same) (h2.up (Ex.new (free_of w.ex hp)))) h⟩
  | _ => exact h.elim
/-! ### ints -/
def int1D : D → (D → Prop) → Prop
  | .int i, k => k (.int i)
  | _, _ => False
def rInt1 : List V → Hp → VK → Prop := fun xs H Q => (∃ i, xs = [.int i] ∧ Q (.int i) H) ∨ ∃ k, xs = [.bl k] ∧ Q (.int (if k then 1 else 0)) H
theorem call_rInt1 : CallR X (.type "int") rInt1 := call_int1
theorem cal_int : Cal K (rInt1) (one1 int1D) := by
  refine cal_one ?_
  intro T S v d Hb H n P Q w hv h q
  cases hv with
  | int i => exact .inl ⟨_, rfl, q.now w (.int _) h⟩
  | _ => exact h.elim
def rAbs : List V → Hp → VK → Prop := fun xs H Q => ∃ i, xs = [.int i] ∧ Q (.int (if i < 0 then -i else i)) H
theorem call_rAbs : CallR X (.builtin "abs") rAbs := call_abs
def maxD : D → D → (D → Prop) → Prop
  | .int i, .int j, k => k (.int (if j > i then j else i))
  | _, _, _ => False
def minD : D → D → (D → Prop) → Prop
  | .int i, .int j, k => k (.int (if j < i then j else i))
  | _, _, _ => False
def rMax2 : List V → Hp → VK → Prop := fun xs H Q => ∃ i j, xs = [.int i, .int j] ∧ Q (.int (if j > i then j else i)) H
theorem call_rMax2 (hc : X.calm = true) : CallR X (.builtin "max") rMax2 := call_max2 hc
theorem cal_max2 : Cal K (rMax2) (two2 maxD) := by
  refine cal_two ?_
  intro T S v u a b Hb H n P Q w hv hu h q
  cases hv with
  | int i =>
    cases hu with
    | int j => exact ⟨_, _, rfl, q.now w (.int _) h⟩
    | _ => exact h.elim
  | _ => exact h.elim
def rMin2 : List V → Hp → VK → Prop := fun xs H Q => ∃ i j, xs = [.int i, .int j] ∧ Q (.int (if j < i then j else i)) H
theorem call_rMin2 (hc : X.calm = true) : CallR X (.builtin "min") rMin2 := call_min2 hc
theorem cal_min2 : Cal K (rMin2) (two2 minD) := by
  refine cal_two ?_
  intro T S v u a b Hb H n P Q w hv hu h q
  cases hv with
  | int i =>
    cases hu with
    | int j => exact ⟨_, _, rfl, q.now w (.int _) h⟩
    | _ => exact h.elim
  | _ => exact h.elim
def negD : D → (D → Prop) → Prop
  | .int i, k => k (.int (-i))
  | _, _ => False
theorem o1_neg : Op1 K (rU fun i => .int (-i)) negD := by
  intro T S x a Hb H n P Q w hx h q
  cases hx with
  | int i => exact ⟨i, rfl, q.now w (.int _) h⟩
  | _ => exact h.elim
end
end DL

/-! statements, targets, what is walked, comprehensions, displays, fields, isinstance on data -/
namespace DL
open L2 PySem PySem.Spec PyProof.Rows
open Evl (Ex ex_l ex_t sz_of)

/-! ### statements -/
structure DEn where
  nx : List SV → Nat → Prop
  rt : DQ
  bk : List SV → Nat → Prop := fun _ _ => False
  ct : List SV → Nat → Prop := fun _ _ => False
abbrev DTS := DEn → List SV → Nat → DX → Prop
/-- the lists of one's own are younger than the base -/
def OwF (H0 : Hp) (ρ : List SV) (σ : L2.St) : Prop := ∀ (i : Nat) (xs : SV) (p : Addr), ρ[i]? = some xs → isOwn xs = true → σ[i]? = some (some (.ref p)) → Fresh H0 p
structure Sl0 (K : PySem.W.Frag) (S : SA) (H0 Hb H : Hp) (n : Nat) (ρ : List SV) (σ : L2.St) : Prop where
  sl : Slots K S Hb H n ρ σ
  fr : OwF H0 ρ σ
def NOk (K : PySem.W.Frag) (T : Tb) (S : SA) (Hb H : Hp) (n : Nat) (Hc : Hp) (P : List SV → Nat → Prop) (Q : L2.St → Hp → Prop) : Prop :=
  ∀ ρ σ n' Hb' H', Ex Hc Hb' → Stp K T S Hb H n Hb' H' n' → Sl0 K S H Hb' H' n' ρ σ → P ρ n' → Q σ H'
/-- Hc: what is frozen now -/
structure EOk (K : PySem.W.Frag) (T : Tb) (S : SA) (Hb H : Hp) (n : Nat) (Hc : Hp) (DD : DEn) (D : Ends) : Prop where
  nx : NOk K T S Hb H n Hc DD.nx D.nx
  rt : VOk K T S Hb H n DD.rt D.rt
  bk : NOk K T S Hb H n Hc DD.bk D.bk
  ct : NOk K T S Hb H n Hc DD.ct D.ct
/-- from the base Hb0 H0 n0 (a def's entry) the run has come to Hb H n -/
def RdS (K : PySem.W.Frag) (T : Tb) (S : SA) (E : XK) (ts : TS) (G : DTS) : Prop :=
  ∀ σ ρ Hb0 H0 n0 Hb H n DD XP D, Stp K T S Hb0 H0 n0 Hb H n → Sl0 K S H0 Hb H n ρ σ → G DD ρ n XP → EOk K T S Hb0 H0 n0 Hb DD D → XOk K T S Hb0 H0 n0 XP E → ts D σ H
section
variable {K : PySem.W.Frag} {T : Tb} {S : SA} {E : XK} {Hb H Hb1 H1 H0 : Hp} {n n1 : Nat}
/-- a slot is stored -/
theorem Slots.set {ρ : List SV} {σ : L2.St} {i : Nat} {v : V} {d : D} (sl : Slots K S Hb H n ρ σ) (h : Dn K Hb v d) : Slots K S Hb H n (ρ.set i (.d d)) (σ.set i (some v)) where
  len := by rw [List.length_set, List.length_set]; exact sl.len
  ok := fun j s e => by
    by_cases hj : i = j
    · subst hj
      have hl : i < ρ.length := by
        have := (List.getElem?_eq_some_iff.mp e).1
        rwa [List.length_set] at this
      rw [List.getElem?_set_self hl] at e
      cases e
      exact ⟨some v, List.getElem?_set_self (by rw [← sl.len]; exact hl), v, rfl, h⟩
    · rw [List.getElem?_set_ne hj] at e
      obtain ⟨o, e1, e2⟩ := sl.ok j s e
      exact ⟨o, by rw [List.getElem?_set_ne hj]; exact e1, e2⟩
  ap := fun j k p xs ys hjk ej ek sj sk => by
    by_cases h1 : i = j
    · subst h1
      have hl : i < ρ.length := by
        have := (List.getElem?_eq_some_iff.mp ej).1
        rwa [List.length_set] at this
      rw [List.getElem?_set_self hl] at ej
      cases ej
    · by_cases h2 : i = k
      · subst h2
        have hl : i < ρ.length := by
          have := (List.getElem?_eq_some_iff.mp ek).1
          rwa [List.length_set] at this
        rw [List.getElem?_set_self hl] at ek
        cases ek
      · rw [List.getElem?_set_ne h1] at ej sj
        rw [List.getElem?_set_ne h2] at ek sk
        exact sl.ap j k p xs ys hjk ej ek sj sk
theorem Slots.forget {ρ : List SV} {σ : L2.St} {i : Nat} {o : Option V} (sl : Slots K S Hb H n ρ σ) : Slots K S Hb H n (ρ.set i .no) (σ.set i o) where
  len := by rw [List.length_set, List.length_set]; exact sl.len
  ok := fun j s e => by
    by_cases hj : i = j
    · subst hj
      have hl : i < ρ.length := by
        have := (List.getElem?_eq_some_iff.mp e).1
        rwa [List.length_set] at this
      rw [List.getElem?_set_self hl] at e
      cases e
      exact ⟨o, List.getElem?_set_self (by rw [← sl.len]; exact hl), trivial⟩
    · rw [List.getElem?_set_ne hj] at e
      obtain ⟨o, e1, e2⟩ := sl.ok j s e
      exact ⟨o, by rw [List.getElem?_set_ne hj]; exact e1, e2⟩
  ap := fun j k p xs ys hjk ej ek sj sk => by
    by_cases h1 : i = j
    · subst h1
      have hl : i < ρ.length := by
        have := (List.getElem?_eq_some_iff.mp ej).1
        rwa [List.length_set] at this
      rw [List.getElem?_set_self hl] at ej
      cases ej
    · by_cases h2 : i = k
      · subst h2
        have hl : i < ρ.length := by
          have := (List.getElem?_eq_some_iff.mp ek).1
          rwa [List.length_set] at this
        rw [List.getElem?_set_self hl] at ek
        cases ek
      · rw [List.getElem?_set_ne h1] at ej sj
        rw [List.getElem?_set_ne h2] at ek sk
        exact sl.ap j k p xs ys hjk ej ek sj sk
def wipeS (ρ : List SV) : List Nat → List SV
  | [] => ρ
  | v :: vs => (wipeS ρ vs).set v .no
theorem Slots.wiped {ρ : List SV} {σ : L2.St} (sl : Slots K S Hb H n ρ σ) : ∀ vs : List Nat, Slots K S Hb H n (wipeS ρ vs) (wipe σ vs)
  | [] => sl
  | v :: vs => (Slots.wiped sl vs).forget

theorem OwF.set {ρ : List SV} {σ : L2.St} {i : Nat} {s : SV} {o : Option V} (f : OwF H0 ρ σ) (hs : isOwn s = false) : OwF H0 (ρ.set i s) (σ.set i o) := fun j xs p e1 eo e2 => by
  by_cases hj : i = j
  · subst hj
    have hl : i < ρ.length := by
      have := (List.getElem?_eq_some_iff.mp e1).1
      rwa [List.length_set] at this
    rw [List.getElem?_set_self hl] at e1
    rw [← Option.some.inj e1, hs] at eo
    cases eo
  · rw [List.getElem?_set_ne hj] at e1 e2
    exact f j xs p e1 eo e2
theorem Sl0.step {ρ : List SV} {σ : L2.St} (a : Stp K T S Hb H n Hb1 H1 n1) (h : Sl0 K S H0 Hb H n ρ σ) : Sl0 K S H0 Hb1 H1 n1 ρ σ := ⟨h.sl.step a, h.fr⟩
theorem Sl0.set {ρ : List SV} {σ : L2.St} {i : Nat} {v : V} {d : D} (sl : Sl0 K S H0 Hb H n ρ σ) (h : Dn K Hb v d) : Sl0 K S H0 Hb H n (ρ.set i (.d d)) (σ.set i (some v)) := ⟨sl.sl.set h, sl.fr.set rfl⟩

theorem NOk.up {Hb0 Hc Hc' : Hp} {n0 : Nat} {P : List SV → Nat → Prop} {Q : L2.St → Hp → Prop} (e : Ex Hc Hc') (h : NOk K T S Hb0 H0 n0 Hc P Q) : NOk K T S Hb0 H0 n0 Hc' P Q := fun ρ σ n' Hb' H' e' => h ρ σ n' Hb' H' (e.trans e')
theorem EOk.up {Hb0 Hc Hc' : Hp} {n0 : Nat} {DD : DEn} {D : Ends} (e : Ex Hc Hc') (h : EOk K T S Hb0 H0 n0 Hc DD D) : EOk K T S Hb0 H0 n0 Hc' DD D := ⟨h.nx.up e, h.rt, h.bk.up e, h.ct.up e⟩
def xsSeq (F G : DTS) : DTS := fun DD ρ n XP => F { DD with nx := fun ρ' n' => G DD ρ' n' XP } ρ n XP
def xsNext : DTS := fun DD ρ n _ => DD.nx ρ n
def xsSet (i : Nat) (F : DT) : DTS := fun DD ρ n XP => F ρ n (fun d n1 => DD.nx (ρ.set i (.d d)) n1) XP
def xsRet (F : DT) : DTS := fun DD ρ n XP => F ρ n DD.rt XP
def xsIf (F : DTT) (G1 G2 : DTS) : DTS := fun DD ρ n XP => F ρ n (fun b n1 => match b with | true => G1 DD ρ n1 XP | false => G2 DD ρ n1 XP) XP
def xsDrop (F : DT) : DTS := fun DD ρ n XP => F ρ n (fun _ n1 => DD.nx ρ n1) XP
variable {t u : TS} {F G : DTS} {te : TE} {FE : DT}
theorem rds_seq (h1 : RdS K T S E t F) (h2 : RdS K T S E u G) : RdS K T S E (tSeq t u) (xsSeq F G) := fun σ ρ Hb0 H0 n0 Hb H n DD XP D a sl h q x =>
  h1 σ ρ Hb0 H0 n0 Hb H n _ XP _ a sl h ⟨fun ρ' σ' n' Hb' H' e s sl' p => h2 σ' ρ' Hb0 H0 n0 Hb' H' n' DD XP D s sl' p (q.up e) x, q.rt, q.bk, q.ct⟩ x
theorem rds_next : RdS K T S E tNext xsNext := fun σ ρ Hb0 H0 n0 Hb H n DD XP D a sl h q x => q.nx ρ σ n Hb H (Ex.refl _) a sl h
theorem rds_set {i : Nat} (h1 : DL.Rd K T S E te FE) : RdS K T S E (tAsg te (gName i)) (xsSet i FE) := fun σ ρ Hb0 H0 n0 Hb H n DD XP D a sl h q x =>
  h1 σ ρ Hb H n _ XP _ a.wd sl.sl h (fun d v n1 Hb1 H1 s hd p => q.nx _ _ n1 Hb1 H1 s.ex (a.trans s) ((sl.step s).set hd) p) (x.step a)
theorem rds_ret (h1 : DL.Rd K T S E te FE) : RdS K T S E (tRet te) (xsRet FE) := fun σ ρ Hb0 H0 n0 Hb H n DD XP D a sl h q x => h1 σ ρ Hb H n _ XP _ a.wd sl.sl h (q.rt.step a) (x.step a)
theorem rds_if {c : TT} {FT : DTT} (hc : RdT K T S E c FT) (h1 : RdS K T S E t F) (h2 : RdS K T S E u G) : RdS K T S E (tIfS c t u) (xsIf FT F G) := fun σ ρ Hb0 H0 n0 Hb H n DD XP D a sl h q x =>
  hc σ ρ Hb H n _ XP _ a.wd sl.sl h (fun b n1 Hb1 H1 s p => by
    cases b with
    | true => exact iteT (h1 σ ρ Hb0 H0 n0 Hb1 H1 n1 _ XP _ (a.trans s) (sl.step s) p (q.up s.ex) x)
    | false => exact iteF (h2 σ ρ Hb0 H0 n0 Hb1 H1 n1 _ XP _ (a.trans s) (sl.step s) p (q.up s.ex) x)) (x.step a)
theorem rds_drop (h1 : DL.Rd K T S E te FE) : RdS K T S E (tDrop te) (xsDrop FE) := fun σ ρ Hb0 H0 n0 Hb H n DD XP D a sl h q x =>
  h1 σ ρ Hb H n _ XP _ a.wd sl.sl h (fun d v n1 Hb1 H1 s hd p => q.nx _ _ n1 Hb1 H1 s.ex (a.trans s) (sl.step s) p) (x.step a)
/-- a, b = e1, e2 -/
def xsPar (i j : Nat) (G : DTA) : DTS := fun DD ρ n XP => G ρ n (fun ss n1 => match ss with | [.d a, .d b] => DD.nx ((ρ.set i (.d a)).set j (.d b)) n1 | _ => False) XP
theorem Args.one {ss : List SV} {vs : List V} {d : D} (h : Args K S Hb H n [.d d] vs) : ∃ v, vs = [v] ∧ Dn K Hb v d := by
  cases h with
  | cons h1 h2 =>
    cases h2
    obtain ⟨_, e, hv⟩ := h1
    cases e
    exact ⟨_, rfl, hv⟩
theorem Args.two {ss : List SV} {vs : List V} {d e : D} (h : Args K S Hb H n [.d d, .d e] vs) : ∃ v u, vs = [v, u] ∧ Dn K Hb v d ∧ Dn K Hb u e := by
  cases h with
  | cons h1 h2 =>
    obtain ⟨u, rfl, hu⟩ := Args.one (ss := []) h2
    obtain ⟨_, e, hv⟩ := h1
    cases e
    exact ⟨_, _, rfl, hv, hu⟩
theorem rds_par {i j : Nat} {ta : TA} {GA : DTA} (h1 : RdA K T S E ta GA) : RdS K T S E (tPar i j ta) (xsPar i j GA) := fun σ ρ Hb0 H0 n0 Hb H n DD XP D a sl h q x =>
  h1 σ ρ Hb H n _ XP _ a.wd sl.sl h (fun ss vs n1 Hb1 H1 s ha p => by
    match ss, ha, p with
    | [.d d1, .d d2], ha, p =>
      obtain ⟨v, u, rfl, hv, hu⟩ := Args.two (ss := []) ha
      exact ⟨v, u, rfl, q.nx _ _ n1 Hb1 H1 s.ex (a.trans s) (((sl.step s).set hv).set hu) p⟩) (x.step a)
/-- raise C('..') -/
def xsRaise (C : Addr) : DTS := fun _ _ n XP => XP C [] [] n
theorem rds_raise {C : Addr} : RdS K T S E (fun _ σ H => E (.ref C) none H) (xsRaise C) := fun σ ρ Hb0 H0 n0 Hb H n DD XP D a sl h q x =>
  x C [] [] n none Hb H a ⟨[], .inl ⟨rfl, rfl⟩, rfl, .nil⟩ h
/-! ### targets -/
abbrev DTG := D → List SV → (List SV → Prop) → Prop
def RdG (K : PySem.W.Frag) (T : Tb) (S : SA) (vs : List Nat) (g : TG) (G : DTG) : Prop :=
  ∀ v d σ ρ H0 Hb H n P Q, World T S Hb H → Sl0 K S H0 Hb H n ρ σ → Dn K Hb v d → G d ρ P → (∀ ρ' σ', Sl0 K S H0 Hb H n ρ' σ' → wipe σ' vs = wipe σ vs → P ρ' → Q σ' H) → g v σ H Q
theorem wipe_set {σ : L2.St} {i : Nat} {o : Option V} : ∀ {vs : List Nat}, i ∈ vs → wipe (σ.set i o) vs = wipe σ vs
  | v :: vs, h => by
    unfold wipe
    by_cases hv : i ∈ vs
    · rw [wipe_set hv]
    · have e : i = v := by
        rcases List.mem_cons.mp h with e | e
        · exact e
        · exact absurd e hv
      subst e
      have z : ∀ {ws : List Nat}, i ∉ ws → (wipe (σ.set i o) ws) = (wipe σ ws).set i o := by
        intro ws
        induction ws with
        | nil => intro _; rfl
        | cons w ws ih =>
          intro hw
          have h1 : i ≠ w := fun e => hw (by rw [e]; exact List.mem_cons_self)
          have h2 : i ∉ ws := fun m => hw (List.mem_cons_of_mem _ m)
          unfold wipe
          rw [ih h2, List.set_comm _ _ h1]
      rw [z hv, List.set_set]
def xgName (i : Nat) : DTG := fun d ρ P => P (ρ.set i (.d d))
theorem rdg_name {i : Nat} {vs : List Nat} (h : i ∈ vs) : RdG K T S vs (gName i) (xgName i) := fun v d σ ρ H0 Hb H n P Q w sl hd p q => q _ _ (sl.set hd) (wipe_set h) p
def xgTwo (i j : Nat) : DTG := fun d ρ P => match d with
  | .tup [a, b] => P ((ρ.set i (.d a)).set j (.d b))
  | _ => False
theorem rdg_two {i j : Nat} {vs : List Nat} (h : i ∈ vs) (h' : j ∈ vs) : RdG K T S vs (gTup K 2 (gCons (gName i) (gCons (gName j) gNil))) (xgTwo i j) := fun v d σ ρ H0 Hb H n P Q w sl hd p q => by
  cases hd with
  | @tup a xs ds h1 h2 =>
    cases h2 with
    | nil => exact p.elim
    | @cons v1 vs1 d1 ds1 g1 g2 =>
      cases g2 with
      | nil => exact p.elim
      | @cons v2 vs2 d2 ds2 g3 g4 =>
        cases g4 with
        | cons _ _ => exact p.elim
        | nil => exact ⟨a, [v1, v2], rfl, ex_t w.ex h1, rfl, v1, [v2], rfl, v2, [], rfl, rfl, q _ _ ((sl.set g1).set g3) (by rw [wipe_set h', wipe_set h]) p⟩
  | _ => exact p.elim

/-! ### what is walked -/
/-- J gives the items ds, one by one; an item may be a new object -/
def SrcOk (K : PySem.W.Frag) (J : It) (Hb0 : Hp) (ds : List D) : Prop :=
  ∀ Hb H (i : Nat), Ex Hb0 Hb → Ex Hb H → (ds.length ≤ i → J.stop i H) ∧ ∀ d, ds[i]? = some d → J.go i H ∧ ∀ x H', J.yld i H x H' →
    (H' = H ∧ Dn K Hb x d) ∨ ∃ p o, H p = none ∧ H' = upd H p o ∧ (∀ ps, o ≠ .tbl ps) ∧ Dn K (upd Hb p o) x d
abbrev DTI := List SV → Nat → (List D → Nat → Prop) → DX → Prop
def RdI (K : PySem.W.Frag) (T : Tb) (S : SA) (E : XK) (wi : TI) (F : DTI) : Prop :=
  ∀ σ ρ Hb H n P XP R, World T S Hb H → Slots K S Hb H n ρ σ → F ρ n P XP → (∀ ds n' Hb' H' J, Stp K T S Hb H n Hb' H' n' → SrcOk K J Hb' ds → P ds n' → R J H') → XOk K T S Hb H n XP E → wi σ H R
theorem src_list {a : Addr} {xs : List V} {ds : List D} (h : SqL K Hb a xs) (hd : DnA K Hb xs ds) : SrcOk K (Itl K a) Hb ds := fun Hb1 H1 i e1 e2 => by
  have h1 := ex_l e2 (ex_l e1 h)
  refine ⟨fun hi => ⟨xs, h1, by rw [hd.len]; exact hi⟩, fun d e => ?_⟩
  obtain ⟨v, ev, hv⟩ := hd.get e
  refine ⟨⟨xs, v, h1, ev⟩, fun x H' y => .inl ⟨y.1, ?_⟩⟩
  have z := y.2 xs h1
  rw [ev] at z
  cases z
  exact hv.up e1
theorem src_tup {a : Addr} {xs : List V} {ds : List D} (h : SqT K Hb a xs) (hd : DnA K Hb xs ds) : SrcOk K (Itt K a) Hb ds := fun Hb1 H1 i e1 e2 => by
  have h1 := ex_t e2 (ex_t e1 h)
  refine ⟨fun hi => ⟨xs, h1, by rw [hd.len]; exact hi⟩, fun d e => ?_⟩
  obtain ⟨v, ev, hv⟩ := hd.get e
  refine ⟨⟨xs, v, h1, ev⟩, fun x H' y => .inl ⟨y.1, ?_⟩⟩
  have z := y.2 xs h1
  rw [ev] at z
  cases z
  exact hv.up e1
def rangeD (lo : Int) (m : Nat) : List D := (List.range m).map fun (i : Nat) => D.int (lo + (i : Int))
theorem src_range {lo : Int} {m : Nat} : SrcOk K (Itr lo m) Hb (rangeD lo m) := fun Hb1 H1 i e1 e2 => by
  refine ⟨fun hi => (by unfold rangeD at hi; simpa using hi : m ≤ i), fun d e => ?_⟩
  have hi : i < m := by
    have := (List.getElem?_eq_some_iff.mp e).1
    unfold rangeD at this
    simpa using this
  refine ⟨hi, fun x H' y => .inl ⟨y.1, ?_⟩⟩
  unfold rangeD at e
  rw [List.getElem?_map, List.getElem?_range hi] at e
  cases e
  rw [y.2]
  exact .int _
/-- over a list or a tuple: told by the value -/
def iSeq (K : PySem.W.Frag) (tl : TE) : TI := fun σ H R => tl σ H fun x H1 => ∃ a, x = .ref a ∧ (((∃ xs, SqL K H1 a xs) ∧ R (Itl K a) H1) ∨ ((∃ xs, SqT K H1 a xs) ∧ R (Itt K a) H1))
def seqD : D → (List D → Prop) → Prop
  | .lst xs, k => k xs
  | .tup xs, k => k xs
  | _, _ => False
def xiSeq (F : DT) : DTI := fun ρ n P XP => F ρ n (fun d n1 => seqD d fun xs => P xs n1) XP
theorem rdi_list (h1 : DL.Rd K T S E te FE) : RdI K T S E (iList K te) (fun ρ n P XP => FE ρ n (fun d n1 => match d with | .lst xs => P xs n1 | _ => False) XP) := fun σ ρ Hb H n P XP R w sl h q x =>
  h1 σ ρ Hb H n _ XP _ w sl h (fun d v n1 Hb1 H1 s hd p => by
    cases hd with
    | @lst a xs ds g1 g2 => exact ⟨a, rfl, ⟨xs, ex_l s.wd.ex g1⟩, q ds n1 Hb1 H1 _ s (src_list g1 g2) p⟩
    | _ => exact p.elim) x
theorem rdi_tup (h1 : DL.Rd K T S E te FE) : RdI K T S E (iTup K te) (fun ρ n P XP => FE ρ n (fun d n1 => match d with | .tup xs => P xs n1 | _ => False) XP) := fun σ ρ Hb H n P XP R w sl h q x =>
  h1 σ ρ Hb H n _ XP _ w sl h (fun d v n1 Hb1 H1 s hd p => by
    cases hd with
    | @tup a xs ds g1 g2 => exact ⟨a, rfl, ⟨xs, ex_t s.wd.ex g1⟩, q ds n1 Hb1 H1 _ s (src_tup g1 g2) p⟩
    | _ => exact p.elim) x
def xiRange1 (G : DTA) : DTI := fun ρ n P XP => G ρ n (fun ss n1 => match ss with | [.d (.int j)] => j < 2 ^ 62 ∧ -(2 ^ 62) ≤ j ∧ P (rangeD 0 j.toNat) n1 | _ => False) XP
theorem rdi_range1 {ta : TA} {GA : DTA} (h1 : RdA K T S E ta GA) : RdI K T S E (iRng1 ta) (xiRange1 GA) := fun σ ρ Hb H n P XP R w sl h q x =>
  h1 σ ρ Hb H n _ XP _ w sl h (fun ss vs n1 Hb1 H1 s ha p => by
    match ss, ha, p with
    | [.d (.int j)], ha, p =>
      obtain ⟨v, rfl, hv⟩ := Args.one (ss := []) ha
      cases hv
      exact ⟨j, rfl, p.2.1, p.1, q _ n1 Hb1 H1 _ s src_range p.2.2⟩) x
end
end DL

namespace DL
open L2 PySem PySem.Spec PyProof.Rows
open Evl (Ex ex_l ex_t sz_of)
section
variable {K : PySem.W.Frag} {T : Tb} {S : SA} {E : XK} {Hb H Hb1 H1 : Hp} {n n1 : Nat} {te : TE} {FE : DT}
/-! ### zip of two lists, of two tuples -/
def zipD (xs ys : List D) : List D := (xs.zip ys).map fun p => D.tup [p.1, p.2]
theorem zipD_get {xs ys : List D} {i : Nat} {d : D} (h : (zipD xs ys)[i]? = some d) : ∃ x y, xs[i]? = some x ∧ ys[i]? = some y ∧ d = .tup [x, y] := by
  unfold zipD at h
  rw [List.getElem?_map] at h
  cases e : (xs.zip ys)[i]? with
  | none => rw [e] at h; cases h
  | some p =>
    rw [e] at h
    cases h
    rw [List.getElem?_zip_eq_some] at e
    exact ⟨p.1, p.2, e.1, e.2, rfl⟩
theorem src_zipL {a b : Addr} {xs ys : List V} {ds es : List D} (h : SqL K Hb a xs) (hd : DnA K Hb xs ds) (g : SqL K Hb b ys) (gd : DnA K Hb ys es) : SrcOk K (Itz K a b) Hb (zipD ds es) := fun Hb1 H1 i e1 e2 => by
  have h1 := ex_l e2 (ex_l e1 h)
  have g1 := ex_l e2 (ex_l e1 g)
  refine ⟨fun hi => ⟨xs, ys, h1, g1, ?_⟩, fun d e => ?_⟩
  · unfold zipD at hi
    rw [List.length_map, List.length_zip] at hi
    rw [hd.len, gd.len]
    omega
  · obtain ⟨x, y, ex, ey, rfl⟩ := zipD_get e
    obtain ⟨v, ev, hv⟩ := hd.get ex
    obtain ⟨u, eu, hu⟩ := gd.get ey
    refine ⟨⟨xs, ys, v, u, h1, g1, ev, eu⟩, fun z H' q => ?_⟩
    obtain ⟨p, x', y', rfl, hp, rfl, f1, f2⟩ := q
    have z1 := f1 xs h1
    have z2 := f2 ys g1
    rw [ev] at z1
    rw [eu] at z2
    cases z1
    cases z2
    have ex := Ex.new (o := .tup [v, u]) (free_of e2 hp)
    exact .inr ⟨p, _, hp, rfl, (fun _ z => by cases z), .tup (SqT.of upd_same) (.cons ((hv.up e1).up ex) (.cons ((hu.up e1).up ex) .nil))⟩
theorem src_zipT {a b : Addr} {xs ys : List V} {ds es : List D} (h : SqT K Hb a xs) (hd : DnA K Hb xs ds) (g : SqT K Hb b ys) (gd : DnA K Hb ys es) : SrcOk K (RZ.ItzT K a b) Hb (zipD ds es) := fun Hb1 H1 i e1 e2 => by
  have h1 := ex_t e2 (ex_t e1 h)
  have g1 := ex_t e2 (ex_t e1 g)
  refine ⟨fun hi => ⟨xs, ys, h1, g1, ?_⟩, fun d e => ?_⟩
  · unfold zipD at hi
    rw [List.length_map, List.length_zip] at hi
    rw [hd.len, gd.len]
    omega
  · obtain ⟨x, y, ex, ey, rfl⟩ := zipD_get e
    obtain ⟨v, ev, hv⟩ := hd.get ex
    obtain ⟨u, eu, hu⟩ := gd.get ey
    refine ⟨⟨xs, ys, v, u, h1, g1, ev, eu⟩, fun z H' q => ?_⟩
    obtain ⟨p, x', y', rfl, hp, rfl, f1, f2⟩ := q
    have z1 := f1 xs h1
    have z2 := f2 ys g1
    rw [ev] at z1
    rw [eu] at z2
    cases z1
    cases z2
    have ex := Ex.new (o := .tup [v, u]) (free_of e2 hp)
    exact .inr ⟨p, _, hp, rfl, (fun _ z => by cases z), .tup (SqT.of upd_same) (.cons ((hv.up e1).up ex) (.cons ((hu.up e1).up ex) .nil))⟩
def xiZip (G : DTA) : DTI := fun ρ n P XP => G ρ n (fun ss n1 => match ss with
  | [.d (.lst xs), .d (.lst ys)] => P (zipD xs ys) n1
  | [.d (.tup xs), .d (.tup ys)] => P (zipD xs ys) n1
  | _ => False) XP
theorem rdi_zip {ta : TA} {GA : DTA} (h1 : RdA K T S E ta GA) : RdI K T S E (RZ.iZipA K ta) (xiZip GA) := fun σ ρ Hb H n P XP R w sl h q x =>
  h1 σ ρ Hb H n _ XP _ w sl h (fun ss vs n1 Hb1 H1 s ha p => by
    match ss, ha, p with
    | [.d (.lst xs), .d (.lst ys)], ha, p =>
      obtain ⟨v, u, rfl, hv, hu⟩ := Args.two (ss := []) ha
      cases hv with
      | @lst a as ds g1 g2 =>
        cases hu with
        | @lst b bs es g3 g4 => exact ⟨a, b, as, bs, rfl, .inl ⟨ex_l s.wd.ex g1, ex_l s.wd.ex g3, q _ n1 Hb1 H1 _ s (src_zipL g1 g2 g3 g4) p⟩⟩
    | [.d (.tup xs), .d (.tup ys)], ha, p =>
      obtain ⟨v, u, rfl, hv, hu⟩ := Args.two (ss := []) ha
      cases hv with
      | @tup a as ds g1 g2 =>
        cases hu with
        | @tup b bs es g3 g4 => exact ⟨a, b, as, bs, rfl, .inr ⟨ex_t s.wd.ex g1, ex_t s.wd.ex g3, q _ n1 Hb1 H1 _ s (src_zipT g1 g2 g3 g4) p⟩⟩) x

/-- an item's step -/
theorem item_step {x : V} {d : D} {H' : Hp} (w : World T S Hb H) (h : (H' = H ∧ Dn K Hb x d) ∨ ∃ p o, H p = none ∧ H' = upd H p o ∧ (∀ ps, o ≠ .tbl ps) ∧ Dn K (upd Hb p o) x d) : ∃ Hb', Stp K T S Hb H n Hb' H' n ∧ Dn K Hb' x d := by
  rcases h with ⟨rfl, h⟩ | ⟨p, o, hp, rfl, ho, h⟩
  · exact ⟨Hb, .refl w, h⟩
  · exact ⟨_, .new w hp ho, h⟩

/-! ### for -/
def xsFor (FI : DTI) (G : DTG) (B : DTS) : DTS := fun DD ρ n XP => FI ρ n (fun xs n1 => ∃ I : Nat → List SV → Nat → Prop, I 0 ρ n1 ∧
  (∀ i x ρ n, xs[i]? = some x → I i ρ n → G x ρ fun ρ2 => B { DD with nx := I (i + 1), ct := I (i + 1), bk := DD.nx } ρ2 n XP) ∧ ∀ ρ n, I xs.length ρ n → DD.nx ρ n) XP
theorem rds_for {wi : TI} {g : TG} {tb : TS} {FI : DTI} {G : DTG} {B : DTS} {vs : List Nat} (hi : RdI K T S E wi FI) (hg : RdG K T S vs g G) (hb : RdS K T S E tb B) : RdS K T S E (tFor wi g tb) (xsFor FI G B) := fun σ ρ Hb0 H0 n0 Hb H n DD XP D a sl h q x =>
  hi σ ρ Hb H n _ XP _ a.wd sl.sl h (fun xs n1 Hb1 H1 J s src p => by
    obtain ⟨I, i0, it, ie⟩ := p
    have b := a.trans s
    -- what is frozen at the loop's start stays
    refine ⟨fun i m σ2 H2 => m = xs.length - i ∧ i ≤ xs.length ∧ ∃ ρ2 n2 Hb2, Ex Hb1 Hb2 ∧ Stp K T S Hb0 H0 n0 Hb2 H2 n2 ∧ Sl0 K S H0 Hb2 H2 n2 ρ2 σ2 ∧ I i ρ2 n2, ⟨xs.length, rfl, Nat.zero_le _, ρ, n1, Hb1, Ex.refl _, b, sl.step s, i0⟩, ?_⟩
    rintro i m σ2 H2 ⟨rfl, hi2, ρ2, n2, Hb2, e2, s2, sl2, hI⟩
    obtain ⟨stop, go⟩ := src Hb2 H2 i e2 s2.wd.ex
    by_cases hlt : i < xs.length
    · have ex : xs[i]? = some xs[i] := List.getElem?_eq_getElem hlt
      obtain ⟨hgo, hy⟩ := go _ ex
      refine .inr ⟨hgo, fun σ' H' => ∃ ρ' n' Hb', Ex Hb1 Hb' ∧ Stp K T S Hb0 H0 n0 Hb' H' n' ∧ Sl0 K S H0 Hb' H' n' ρ' σ' ∧ I (i + 1) ρ' n', fun σ' H' hN => ⟨xs.length - (i + 1), by omega, rfl, hlt, hN⟩, fun v H' y => ?_⟩
      obtain ⟨Hb3, s3, hv⟩ := item_step (K := K) (n := n2) s2.wd (hy v H' y)
      refine hg v _ σ2 ρ2 H0 Hb3 H' n2 _ _ s3.wd (sl2.step s3) hv (it i _ ρ2 n2 ex hI) fun ρ3 σ3 sl3 _ hB => ?_
      have e3 := e2.trans s3.ex
      exact hb σ3 ρ3 Hb0 H0 n0 Hb3 H' n2 _ XP _ (s2.trans s3) sl3 hB ⟨fun ρ4 σ4 n4 Hb4 H4 e4 s4 sl4 p4 => ⟨ρ4, n4, Hb4, e3.trans e4, s4, sl4, p4⟩, q.rt, q.nx.up (s.ex.trans e3), fun ρ4 σ4 n4 Hb4 H4 e4 s4 sl4 p4 => ⟨ρ4, n4, Hb4, e3.trans e4, s4, sl4, p4⟩⟩ x
    · have e : i = xs.length := by omega
      subst e
      exact .inl ⟨stop (Nat.le_refl _), q.nx ρ2 σ2 n2 Hb2 H2 (s.ex.trans e2) s2 sl2 (ie ρ2 n2 hI)⟩) (x.step a)

/-! ### comprehensions -/
def compM (step : D → Nat → (Option D → Nat → Prop) → Prop) : List D → Nat → (List D → Nat → Prop) → Prop
  | [], n, P => P [] n
  | x :: xs, n, P => step x n fun o n' => compM step xs n' fun ds n'' => P (match o with | some d => d :: ds | none => ds) n''
def xtYes : DTT := fun _ n P _ => P true n
theorem rdt_yes {E : XK} : RdT K T S E tYes xtYes := fun σ ρ Hb H n P XP Q w sl h q x => q true n Hb H (.refl w) h
theorem wipe_wipe {σ : L2.St} {vs : List Nat} : wipe (wipe σ vs) vs = wipe σ vs := by
  have z : ∀ ws : List Nat, (∀ i ∈ ws, i ∈ vs) → wipe (wipe σ ws) vs = wipe σ vs := by
    intro ws
    induction ws with
    | nil => intro _; rfl
    | cons w ws ih =>
      intro h
      show wipe ((wipe σ ws).set w none) vs = wipe σ vs
      rw [wipe_set (h w List.mem_cons_self), ih fun i hi => h i (List.mem_cons_of_mem _ hi)]
  exact z vs fun _ h => h
/-- what gives a new list, not frozen yet -/
abbrev DTL := List SV → Nat → (List D → Nat → Prop) → DX → Prop
def RdN (K : PySem.W.Frag) (T : Tb) (S : SA) (E : XK) (te : TE) (F : DTL) : Prop :=
  ∀ σ ρ Hb H n P XP (Q : VK), World T S Hb H → Slots K S Hb H n ρ σ → F ρ n P XP →
    (∀ ds p vs n' Hb' H', Stp K T S Hb H n Hb' H' n' → Fresh H p → H' p = some (.lst vs) → Hb' p = none → DnA K Hb' vs ds → P ds n' → Q (.ref p) H') → XOk K T S Hb H n XP E → te σ H Q
def xnLc (FI : DTI) (G : DTG) (FT : DTT) (FE : DT) (vs : List Nat) : DTL := fun ρ n P XP => FI ρ n (fun xs n1 => xs.length ≤ 100000 ∧
  compM (fun x n2 k => G x (wipeS ρ vs) fun ρ2 => FT ρ2 n2 (fun b n3 => match b with | true => FE ρ2 n3 (fun d n4 => k (some d) n4) xF | false => k none n3) xF) xs n1 P) XP
/-- J gives the items while steps of ours are made -/
def SrcJ (K : PySem.W.Frag) (T : Tb) (S : SA) (J : It) (Hb0 H0 : Hp) (n0 : Nat) (ds : List D) : Prop :=
  ∀ Hb H n (i : Nat), Stp K T S Hb0 H0 n0 Hb H n → (ds.length ≤ i → J.stop i H) ∧ ∀ d, ds[i]? = some d → J.go i H ∧ ∀ x H', J.yld i H x H' →
    (H' = H ∧ Dn K Hb x d) ∨ ∃ p o, H p = none ∧ H' = upd H p o ∧ (∀ ps, o ≠ .tbl ps) ∧ Dn K (upd Hb p o) x d
def RdJ (K : PySem.W.Frag) (T : Tb) (S : SA) (E : XK) (wi : TI) (F : DTI) : Prop :=
  ∀ σ ρ Hb H n P XP R, World T S Hb H → Slots K S Hb H n ρ σ → F ρ n P XP → (∀ ds n' Hb' H' J, Stp K T S Hb H n Hb' H' n' → SrcJ K T S J Hb' H' n' ds → P ds n' → R J H') → XOk K T S Hb H n XP E → wi σ H R
theorem rdj_of {wi : TI} {F : DTI} (h : RdI K T S E wi F) : RdJ K T S E wi F := fun σ ρ Hb H n P XP R w sl hf q x =>
  h σ ρ Hb H n P XP R w sl hf (fun ds n' Hb' H' J s src p => q ds n' Hb' H' J s (fun Hb2 H2 n2 i s2 => src Hb2 H2 i s2.ex s2.wd.ex) p) x
theorem rdn_lc {wi : TI} {g : TG} {tt : TT} {FI : DTI} {G : DTG} {FT : DTT} {vs : List Nat} (hi : RdJ K T S E wi FI) (hg : RdG K T S vs g G) (ht : RdT K T S E0 tt FT) (he : DL.Rd K T S E0 te FE) : RdN K T S E (tLc wi g tt te vs) (xnLc FI G FT FE vs) := fun σ ρ Hb H n P XP Q w sl h q x =>
  hi σ ρ Hb H n _ XP _ w sl h (fun xs n1 Hb1 H1 J s src p => by
    obtain ⟨hlen, p⟩ := p
    intro L hL
    have nSa : L ≠ S.a := s.wd.sa.ne (fresh_none hL)
    have nSl : L ≠ S.l := s.wd.sl.ne (fresh_none hL)
    have nSc : L ≠ S.c := s.wd.sc.ne (fresh_none hL)
    refine ⟨fun i m H2 => m = xs.length - i ∧ i ≤ xs.length ∧ ∃ n2 Hb2 accV acc, Stp K T S Hb1 H1 n1 Hb2 H2 n2 ∧ H2 L = some (.lst accV) ∧ Hb2 L = none ∧ DnA K Hb2 accV acc ∧ acc.length ≤ i ∧
      compM (fun x n2 k => G x (wipeS ρ vs) fun ρ2 => FT ρ2 n2 (fun b n3 => match b with | true => FE ρ2 n3 (fun d n4 => k (some d) n4) xF | false => k none n3) xF) (xs.drop i) n2 fun ds n5 => P (acc ++ ds) n5,
      ⟨xs.length, rfl, Nat.zero_le _, n1, Hb1, [], [], .newO s.wd hL, upd_same, free_of s.wd.ex hL, .nil, Nat.le_refl _, p⟩, ?_⟩
    rintro i m H2 ⟨rfl, hi2, n2, Hb2, accV, acc, s2, eL, fL, hacc, la, hc⟩
    obtain ⟨stop, go⟩ := src Hb2 H2 n2 i s2
    by_cases hlt : i < xs.length
    · have ex : xs[i]? = some xs[i] := List.getElem?_eq_getElem hlt
      obtain ⟨hgo, hy⟩ := go _ ex
      have ed : xs.drop i = xs[i] :: xs.drop (i + 1) := List.drop_eq_getElem_cons hlt
      rw [ed] at hc
      refine .inr ⟨hgo, fun H' => ∃ n' Hb' accV acc, Stp K T S Hb1 H1 n1 Hb' H' n' ∧ H' L = some (.lst accV) ∧ Hb' L = none ∧ DnA K Hb' accV acc ∧ acc.length ≤ i + 1 ∧
        compM (fun x n2 k => G x (wipeS ρ vs) fun ρ2 => FT ρ2 n2 (fun b n3 => match b with | true => FE ρ2 n3 (fun d n4 => k (some d) n4) xF | false => k none n3) xF) (xs.drop (i + 1)) n' fun ds n5 => P (acc ++ ds) n5,
        fun H' hN => ⟨xs.length - (i + 1), by omega, rfl, hlt, hN⟩, fun v H' y => ?_⟩
      obtain ⟨Hb3, s3, hv⟩ := item_step (n := n2) s2.wd (hy v H' y)
      have st3 := s2.trans s3
      have sl3 : Sl0 K S (fun _ => none) Hb3 H' n2 (wipeS ρ vs) (wipe σ vs) := ⟨((sl.step s).step st3).wiped vs, fun _ _ _ _ _ _ => fresh_none rfl⟩
      have ne : ∀ ps, HO.lst accV ≠ .tbl ps := fun ps z => by cases z
      refine hg v _ (wipe σ vs) (wipeS ρ vs) _ Hb3 H' n2 _ _ s3.wd sl3 hv hc fun ρ4 σ4 sl4 hw hT => ⟨hw.trans wipe_wipe, ?_⟩
      obtain ⟨eL3, fL3⟩ := s3.own L _ eL fL nSa nSl ne
      refine ht σ4 ρ4 Hb3 H' n2 _ xF _ s3.wd sl4.sl hT (fun b n4 Hb4 H4 s4 p4 => ?_) XOk.none
      obtain ⟨eL4, fL4⟩ := s4.own L _ eL3 fL3 nSa nSl ne
      have hacc4 := (hacc.up s3.ex).up s4.ex
      cases b with
      | false => exact iteF ⟨n4, Hb4, accV, acc, st3.trans s4, eL4, fL4, hacc4, Nat.le_succ_of_le la, p4⟩
      | true =>
        refine iteT ?_
        refine he σ4 ρ4 Hb4 H4 n4 _ xF _ s4.wd (sl4.sl.step s4) p4 (fun d u n5 Hb5 H5 s5 hu p5 => ?_) XOk.none
        obtain ⟨eL5, fL5⟩ := s5.own L _ eL4 fL4 nSa nSl ne
        have hacc5 := hacc4.up s5.ex
        have w5 := s5.wd
        have st5 := (st3.trans s4).trans s5
        have nT : ∀ q ∈ T, q.1 ≠ L := fun q hq z => by
          obtain ⟨ps, e, _⟩ := w5.tabs q hq
          rw [z, eL5] at e
          cases e
        refine ⟨accV, eL5, ?_, n5, Hb5, accV ++ [u], acc ++ [d], ?_, upd_same, fL5, hacc5.app (.one hu), by simp; omega, ?_⟩
        · rw [hacc5.len]
          exact Nat.lt_of_le_of_lt la (Nat.lt_of_lt_of_le hlt (sz_of hlen))
        · -- the list has grown
          refine ⟨st5.ex, ⟨fun b o e => ?_, fun q hq => ?_, w5.tb, ?_, ?_, ?_, w5.nt⟩, fun h0 => ?_, fun b o e1 e2 e3 e4 e5 => ?_, fun b e => st5.dm b (dm_upd (fun _ z => by cases z) b e)⟩
          · rw [upd_ne (fun z => by rw [z, fL5] at e; cases e)]
            exact w5.ex b o e
          · obtain ⟨ps, e, t1, t2⟩ := w5.tabs q hq
            refine ⟨ps, by rw [upd_ne (nT q hq)]; exact e, t1, fun pos cv hcv => ?_⟩
            obtain ⟨c, e1, e2⟩ := t2 pos cv hcv
            refine ⟨c, e1, ?_⟩
            rw [upd_ne (fun z => by rw [z, eL5] at e2; unfold LamX.CodeO at e2; cases e2)]
            exact e2
          · exact w5.sa.upd fun _ z => by cases z
          · exact w5.sl.upd fun _ z => by cases z
          · exact w5.sc.upd fun _ z => by cases z
          · obtain ⟨g1, g2, ls, cs, mm, t, g3, g4, g5, g6, g7, g8, rest⟩ := st5.st h0
            exact ⟨g1, g2, ls, cs, mm, t, g3, g4, g5, by rw [upd_ne nSa.symm]; exact g6, by rw [upd_ne nSl.symm]; exact g7, g8, rest⟩
          · have hb : b ≠ L := ne_of_none e1 hL
            rw [upd_ne hb]
            exact st5.own0 b o e1 e2 e3 e4 e5
        · have e6 : ∀ ds, (acc ++ [d]) ++ ds = acc ++ (d :: ds) := fun ds => by simp
          simp only [e6]
          exact p5
    · have e : i = xs.length := by omega
      subst e
      refine .inl ⟨stop (Nat.le_refl _), ?_⟩
      rw [List.drop_length] at hc
      have hc : P (acc ++ []) n2 := hc
      rw [List.append_nil] at hc
      exact q acc L accV n2 Hb2 H2 (s.trans s2) (s.dm L (fresh_none hL)) eL fL hacc hc) x

/-- an object of one's own is written, then frozen -/
theorem Stp.freeze {p : Addr} {o : HO} (s : Stp K T S Hb H n Hb1 H1 n1) (hp : Fresh H p) (fp : Hb1 p = none) (hx : H1 p ≠ none) (nt : ∀ ps, H1 p ≠ some (.tbl ps)) (nc : ∀ c q, H1 p ≠ some (LamX.CodeO c q)) (na : p ≠ S.a) (nl : p ≠ S.l) (nc2 : p ≠ S.c) (ho : ∀ ps, o ≠ .tbl ps := by intro _ z; cases z) : Stp K T S Hb H n (upd Hb1 p o) (upd H1 p o) n1 := by
  have w := s.wd
  refine ⟨s.ex.trans (Ex.new fp), ⟨fun b u e => ?_, fun q hq => ?_, fun q hq => ?_, ?_, ?_, ?_, nt_upd w.nt ho⟩, fun h0 => ?_, fun b u e1 e2 e3 e4 e5 => ?_, fun b e => s.dm b (dm_upd ho b e)⟩
  · by_cases hb : b = p
    · rw [hb, upd_same] at e ⊢
      exact e
    · rw [upd_ne hb] at e ⊢
      exact w.ex b u e
  · obtain ⟨ps, e, t1, t2⟩ := w.tabs q hq
    refine ⟨ps, by rw [upd_ne (fun z => nt ps (by rw [← z]; exact e))]; exact e, t1, fun pos cv hcv => ?_⟩
    obtain ⟨c, e1, e2⟩ := t2 pos cv hcv
    exact ⟨c, e1, by rw [upd_ne (fun z => nc c q.2 (by rw [← z]; exact e2))]; exact e2⟩
  · obtain ⟨ps, e, _⟩ := w.tabs q hq
    rw [upd_ne (fun z => nt ps (by rw [← z]; exact e))]
    exact w.tb q hq
  · exact w.sa.upd ho
  · exact w.sl.upd ho
  · exact w.sc.upd ho
  · obtain ⟨g1, g2, ls, cs, m, t, g3, g4, g5, g6, g7, g8, rest⟩ := s.st h0
    exact ⟨by rw [upd_ne na.symm]; exact g1, by rw [upd_ne nl.symm]; exact g2, ls, cs, m, t, g3, g4, g5, by rw [upd_ne na.symm]; exact g6, by rw [upd_ne nl.symm]; exact g7, by rw [upd_ne nc2.symm]; exact g8, rest⟩
  · have hb : b ≠ p := hp.ne e1 e5
    rw [upd_ne hb, upd_ne hb]
    exact s.own0 b u e1 e2 e3 e4 e5
theorem World.nS (w : World T S Hb H) {p : Addr} (hp : Fresh H p) : p ≠ S.a ∧ p ≠ S.l ∧ p ≠ S.c := ⟨w.sa.ne hp, w.sl.ne hp, w.sc.ne hp⟩
theorem codeO_no {c : Addr} {q : Str} {o : HO} (h : ∀ φ, o ≠ .ext φ) : o ≠ LamX.CodeO c q := fun z => by
  unfold LamX.CodeO at z
  exact h _ z
theorem rd_of_new {F : DTL} (h : RdN K T S E te F) : DL.Rd K T S E te (fun ρ n P XP => F ρ n (fun ds n1 => P (.lst ds) n1) XP) := fun σ ρ Hb H n P XP Q w sl hf q x =>
  h σ ρ Hb H n _ XP Q w sl hf (fun ds p vs n' Hb' H' s hp e1 e2 hd pp => by
    obtain ⟨n1, n2, n3⟩ := w.nS hp
    have z := s.freeze (o := .lst vs) hp e2 (by rw [e1]; exact fun z => by cases z) (fun ps z => by rw [e1] at z; cases z) (fun c u z => by rw [e1] at z; exact codeO_no (o := .lst vs) (fun _ z => by cases z) (Option.some.inj z)) n1 n2 n3
    have e : upd H' p (.lst vs) = H' := by
      funext b
      by_cases hb : b = p
      · rw [hb, upd_same, e1]
      · rw [upd_ne hb]
    rw [e] at z
    exact q _ _ n' _ _ z (.lst (SqL.of upd_same) (hd.up (Ex.new e2))) pp) x
def xLc (FI : DTI) (G : DTG) (FT : DTT) (FE : DT) (vs : List Nat) : DT := fun ρ n P XP => xnLc FI G FT FE vs ρ n (fun ds n1 => P (.lst ds) n1) XP
theorem rd_lc {wi : TI} {g : TG} {tt : TT} {FI : DTI} {G : DTG} {FT : DTT} {vs : List Nat} (hi : RdJ K T S E wi FI) (hg : RdG K T S vs g G) (ht : RdT K T S E0 tt FT) (he : DL.Rd K T S E0 te FE) : DL.Rd K T S E (tLc wi g tt te vs) (xLc FI G FT FE vs) := rd_of_new (rdn_lc hi hg ht he)
/-- y = [..], a list of one's own -/
def xsSetO (i : Nat) (F : DTL) : DTS := fun DD ρ n XP => F ρ n (fun ds n1 => DD.nx (ρ.set i (.ol ds)) n1) XP
end
end DL

namespace DL
open L2 PySem PySem.Spec PyProof.Rows
open Evl (Ex ex_l ex_t sz_of)
section
variable {K : PySem.W.Frag} {T : Tb} {S : SA} {E : XK} {Hb H Hb1 H1 : Hp} {n n1 : Nat} {te : TE} {FE : DT} {X : Cx}
/-! ### e.f -/
def fldD : List Str → List D → Str → Option D
  | k :: ks, d :: ds, f => if k = f then some d else fldD ks ds f
  | _, _, _ => none
theorem fld_of : ∀ {fs : List (Str × V)} {ns : List Str} {ds : List D} {f : Str} {d : D}, fs.map (·.1) = ns → DnA K H (fs.map (·.2)) ds → fldD ns ds f = some d → ∃ v, fs.lookup f = some v ∧ Dn K H v d
  | [], _, ds, f, d, e, h, g => by
    subst e
    unfold fldD at g
    simp at g
  | (k, v) :: fs, _, ds, f, d, e, h, g => by
    subst e
    cases h with
    | @cons _ _ d0 ds0 h1 h2 =>
      have g : (if k = f then some d0 else fldD (fs.map (·.1)) ds0 f) = some d := g
      by_cases hk : k = f
      · rw [if_pos hk] at g
        cases g
        subst hk
        exact ⟨v, by simp, h1⟩
      · rw [if_neg hk] at g
        obtain ⟨v', e2, h3⟩ := fld_of (ns := fs.map (·.1)) rfl h2 g
        refine ⟨v', ?_, h3⟩
        have hk' : (f == k) = false := by simpa using Ne.symm hk
        rw [List.lookup_cons, hk']
        exact e2
def xFld (K : PySem.W.Frag) (f : Str) (F : DT) : DT := fun ρ n P XP => F ρ n (fun d n1 => match d with
  | .ins C ns ds => NoAttr K C f ∧ ∃ x, fldD ns ds f = some x ∧ P x n1
  | _ => False) XP
theorem rd_fld {f : Str} (h1 : DL.Rd K T S E te FE) : DL.Rd K T S E (tFld K te f) (xFld K f FE) := fun σ ρ Hb H n P XP Q w sl h q x =>
  h1 σ ρ Hb H n _ XP _ w sl h (fun d v n1 Hb1 H1 s hd p => by
    cases hd with
    | @ins a C dx fs ns ds hc g1 g2 g3 =>
      obtain ⟨hn, y, e, p⟩ := p
      obtain ⟨v, e2, hv⟩ := fld_of g2 g3 e
      exact ⟨a, C, dx, fs, v, rfl, s.wd.ex _ _ g1, hc.cl, hn, e2, q _ _ n1 Hb1 H1 s hv p⟩
    | _ => exact p.elim) x
/-! ### isinstance -/
def tyD : D → Value
  | .non => .type "NoneType"
  | .bl _ => .type "bool"
  | .int _ => .type "int"
  | .str _ => .type "str"
  | .lst _ => .type "list"
  | .tup _ => .type "tuple"
  | .dic _ _ => .type "dict"
  | .ins C _ _ => .ref C
  | .exc C _ _ => .ref C
  | .fnv _ => .none
  | .dit _ _ => .none
  | .lam _ => .none
def rIsD (K : PySem.W.Frag) : List V → Hp → VK → Prop := fun xs H Q => rIsi K xs H Q ∨
  ∃ (a C : Addr) (od : Option Addr) (c : V) (u : Value) (b : Bool), xs = [.ref a, c] ∧ ClsV c u ∧ H a = some (ExT C od a) ∧ (∀ dd, od = some dd → ∃ o, H dd = some o) ∧ ExcC K C ∧ PySem.W.kitOne K (.ref C) u = some b ∧ Q (.bl b) H
theorem call_isD : CallR X (.builtin "isinstance") (rIsD X.K) := by
  refine CallR.or call_isi ?_
  intro pins s σ H xs us Q I r h
  obtain ⟨a, C, od, c, u, b, rfl, k, ha, hod, hc, e, q⟩ := h
  obtain ⟨u1, u2, rfl, r1, r2⟩ := vals2 r
  have e2 := k.eq r2
  subst e2
  cases r1
  obtain ⟨⟨oe, vs, h1, ⟨h2, h3⟩, h4⟩, _, _⟩ := I.hok a _ ha
  have hcl : (PySem.W.clsIn X.K C).isSome = true := by
    have z := hc.hd
    unfold PySem.W.hasDictIn at z
    cases q : PySem.W.clsIn X.K C with
    | none => rw [q] at z; cases z
    | some _ => rfl
  have J : ∃ oo, PySem.W.InstAt s.heap a oe C oo := by
    obtain ⟨oc, odd, oda, osl⟩ := oe
    dsimp only at h2 h3 h4
    subst h2 h3 h4
    cases odd with
    | none => exact ⟨none, h1, rfl, rfl, trivial⟩
    | some dd =>
      obtain ⟨o, ho⟩ := hod dd rfl
      obtain ⟨oo, hoo⟩ := objOk_get (I.hok dd o ho)
      exact ⟨some oo, h1, rfl, rfl, hoo⟩
  obtain ⟨oo, J⟩ := J
  exact PySem.W.kia_one (PySem.W.kitx_exc hcl hc.hg hc.hk hc.hs hc.ha hc.hn hc.ht hc.hm) I.kIn J e (fun z => nomatch z) fun tk => ⟨.bl b, H, I.kept (t' := tk) fun _ _ z => z, rfl, q⟩
theorem TyX.of {v : V} {d : D} (h : Dn K H v d) (he : ∀ C ns ds, d ≠ .exc C ns ds) (hf : ∀ f, d ≠ .fnv f) (hg : ∀ ks ds, d ≠ .dit ks ds) (hl : ∀ F, d ≠ .lam F := by intro _ z; cases z) : TyX K H v (tyD d) := by
  cases h with
  | non => exact .base .non
  | bl b => exact .base (.bl b)
  | int i => exact .base (.int i)
  | str i => exact .base (.str i)
  | lst h1 h2 =>
    rcases h1 with (h1 | ⟨o, h1⟩) | ⟨o, its, m, h1, h3, _⟩
    · exact .base (.lst h1)
    · exact .base (.frz h1)
    · exact .kList h1 h3
  | tup h1 h2 =>
    rcases h1 with (h1 | ⟨o, h1⟩) | ⟨o, its, m, h1, h3, _⟩
    · exact .base (.tup h1)
    · exact .fTuple h1
    · exact .kTuple h1 h3
  | dic h1 h2 h3 => exact .base (.dK h1)
  | ins hc h1 h2 h3 => exact .base (.ins h1 hc.cl hc.ha hc.hn hc.ht hc.hm)
  | exc hc ht h1 h2 h3 h4 => exact (he _ _ _ rfl).elim
  | fnv f => exact (hf _ rfl).elim
  | dit _ _ _ => exact (hg _ _ rfl).elim
  | lam _ _ => exact (hl _ rfl).elim
/-- an exception without fields, for isinstance -/
def bareD : D → Prop
  | .fnv _ => False
  | .dit _ _ => False
  | .lam _ => False
  | _ => True
def xIs (K : PySem.W.Frag) (c : Value) (F : DT) : DT := fun ρ n P XP => F ρ n (fun d n1 => bareD d ∧ ∃ b, PySem.W.kitOne K (tyD d) c = some b ∧ P (.bl b) n1) XP
theorem rd_is {cv : V} {cu : Value} (hc : ClsV cv cu) (h1 : DL.Rd K T S E te FE) : DL.Rd K T S E (tCB (rIsD K) (tCons te (tCons (tC cv) tNil))) (xIs K cu FE) := fun σ ρ Hb H n P XP Q w sl h q x =>
  h1 σ ρ Hb H n _ XP _ w sl h (fun d v n1 Hb1 H1 s hd p => by
    obtain ⟨hb, b, e, p⟩ := p
    have fin : Q (.bl b) H1 := q _ _ n1 Hb1 H1 s (.bl b) p
    have hd1 := s.wd.dn hd
    show rIsD K [v, cv] H1 Q
    cases d with
    | exc C ns ds =>
      cases hd1 with
      | @exc a C od fs ns ds hC hT g1 g0 g2 g3 =>
        refine .inr ⟨a, C, od, cv, cu, b, rfl, hc, g1, fun dd ed => ?_, hC, e, fin⟩
        rcases g0 with g0 | ⟨d2, g0, hne, g4⟩
        · rw [g0.1] at ed
          cases ed
        · rw [g0] at ed
          cases ed
          exact ⟨_, g4⟩
    | fnv f => exact hb.elim
    | dit _ _ => exact hb.elim
    | lam _ => exact hb.elim
    | _ => exact .inl ⟨v, cv, _, cu, b, rfl, hc, TyX.of hd1 (fun _ _ _ z => by cases z) (fun _ z => by cases z) (fun _ _ z => by cases z), e, fin⟩) x

/-- isinstance of a built-in class -/
def isTy (t : String) : D → Bool
  | .int _ => t == "int"
  | .bl _ => t == "bool" || t == "int"
  | .str _ => t == "str"
  | .tup _ => t == "tuple"
  | .lst _ => t == "list"
  | .dic _ _ => t == "dict"
  | _ => false
theorem kit_isTy {t : String} (ht : t ∈ ["int", "bool", "str", "tuple", "list", "dict"]) {v : V} {d : D} (h : Dn K H v d) (hb : bareD d) : PySem.W.kitOne K (tyD d) (.type t) = some (isTy t d) := by
  have B : ∀ (a : String), kitB a t = some (if a = "NoneType" then false else if a = "bool" then (t == "bool" || t == "int") else t == a) → PySem.W.kitOne K (.type a) (.type t) = some (if a = "NoneType" then false else if a = "bool" then (t == "bool" || t == "int") else t == a) := fun a e => kit_ty e
  have hB : ∀ a ∈ ["NoneType", "int", "bool", "str", "tuple", "list", "dict"], ∀ t ∈ ["int", "bool", "str", "tuple", "list", "dict"], kitB a t = some (if a = "NoneType" then false else if a = "bool" then (t == "bool" || t == "int") else t == a) := by decide +kernel
  cases h with
  | non => exact B _ (hB "NoneType" (by decide) t ht)
  | bl b => exact B _ (hB "bool" (by decide) t ht)
  | int b => exact B _ (hB "int" (by decide) t ht)
  | str b => exact B _ (hB "str" (by decide) t ht)
  | lst _ _ => exact B _ (hB "list" (by decide) t ht)
  | tup _ _ => exact B _ (hB "tuple" (by decide) t ht)
  | dic _ _ _ => exact B _ (hB "dict" (by decide) t ht)
  | ins hc _ _ _ => exact hc.nt t ht
  | exc hc hn _ _ _ _ => exact hn t ht
  | fnv f => exact hb.elim
  | dit _ _ _ => exact hb.elim
  | lam _ _ => exact hb.elim
def xIsT (t : String) (F : DT) : DT := fun ρ n P XP => F ρ n (fun d n1 => bareD d ∧ P (.bl (isTy t d)) n1) XP
theorem is_end {cv : V} {cu : Value} {b : Bool} {v : V} {d : D} {Q : VK} (hc : ClsV cv cu) (hd : Dn K H v d) (hb : bareD d) (e : PySem.W.kitOne K (tyD d) cu = some b) (fin : Q (.bl b) H) : rIsD K [v, cv] H Q := by
  cases d with
  | exc C ns ds =>
    cases hd with
    | @exc a C od fs ns ds hC hT g1 g0 g2 g3 =>
      refine .inr ⟨a, C, od, cv, cu, b, rfl, hc, g1, fun dd ed => ?_, hC, e, fin⟩
      rcases g0 with g0 | ⟨d2, g0, hne, g4⟩
      · rw [g0.1] at ed
        cases ed
      · rw [g0] at ed
        cases ed
        exact ⟨_, g4⟩
  | fnv f => exact hb.elim
  | dit _ _ => exact hb.elim
  | lam _ => exact hb.elim
  | _ => exact .inl ⟨v, cv, _, cu, b, rfl, hc, TyX.of hd (fun _ _ _ z => by cases z) (fun _ z => by cases z) (fun _ _ z => by cases z), e, fin⟩
theorem rd_isT {t : String} (ht : t ∈ ["int", "bool", "str", "tuple", "list", "dict"]) (h1 : DL.Rd K T S E te FE) : DL.Rd K T S E (tCB (rIsD K) (tCons te (tCons (tC (.ty t)) tNil))) (xIsT t FE) := fun σ ρ Hb H n P XP Q w sl h q x =>
  h1 σ ρ Hb H n _ XP _ w sl h (fun d v n1 Hb1 H1 s hd p => is_end (.ty t) (s.wd.dn hd) p.1 (kit_isTy ht hd p.1) (q _ _ n1 Hb1 H1 s (.bl _) p.2)) x
/-! ### displays of dicts -/
def xPairs : List (DT × DT) → List SV → Nat → (List Key → List D → Nat → Prop) → DX → Prop
  | [], _, n, P, _ => P [] [] n
  | (F, G) :: r, ρ, n, P, XP => F ρ n (fun a n1 => ∃ k, keyD a = some k ∧ G ρ n1 (fun d n2 => xPairs r ρ n2 (fun ks ds n3 => P (k :: ks) (d :: ds) n3) XP) XP) XP
def xDisp (prs : List (DT × DT)) : DT := fun ρ n P XP => xPairs prs ρ n (fun ks ds n1 => ks.Nodup ∧ ks.length ≤ 15 ∧ P (.dic ks ds) n1) XP
inductive RdP (K : PySem.W.Frag) (T : Tb) (S : SA) (E : XK) : List (TE × TE) → List (DT × DT) → Prop
  | nil : RdP K T S E [] []
  | cons {tk tv : TE} {F G : DT} {trs : List (TE × TE)} {prs : List (DT × DT)} : DL.Rd K T S E tk F → DL.Rd K T S E tv G → RdP K T S E trs prs → RdP K T S E ((tk, tv) :: trs) ((F, G) :: prs)
theorem key_rel {v : V} {d : D} {k : Key} (h : Dn K H v d) (e : keyD d = some k) : v = kV k := by
  cases h with
  | int i => cases e; rfl
  | str i => cases e; rfl
  | _ => cases e
theorem rd_pairs {trs : List (TE × TE)} {prs : List (DT × DT)} (h : RdP K T S E trs prs) : ∀ {σ : L2.St} {ρ : List SV} {Hb H : Hp} {n : Nat} {P : List Key → List D → Nat → Prop} {XP : DX} {Q : List (V × V) → Hp → Prop}, World T S Hb H → Slots K S Hb H n ρ σ →
    xPairs prs ρ n P XP → (∀ (kvs : List (Key × V)) (ks : List Key) (ds : List D) (n' : Nat) (Hb' H' : Hp), Stp K T S Hb H n Hb' H' n' → kvs.map (·.1) = ks → DnA K Hb' (kvs.map (·.2)) ds → P ks ds n' → Q (kvs.map fun kv => (kV kv.1, kv.2)) H') → XOk K T S Hb H n XP E → tPairs trs σ H Q := by
  induction h with
  | nil => exact fun w sl p q x => q [] [] [] _ _ _ (.refl w) rfl .nil p
  | @cons tk tv F G trs prs h1 h2 _ ih =>
    intro σ ρ Hb H n P XP Q w sl p q x
    refine h1 σ ρ Hb H n _ XP _ w sl p (fun a v n1 Hb1 H1 s hv p1 => ?_) x
    obtain ⟨k, ek, p1⟩ := p1
    refine h2 σ ρ Hb1 H1 n1 _ XP _ s.wd (sl.step s) p1 (fun d u n2 Hb2 H2 s2 hu p2 => ?_) (x.step s)
    refine ih s2.wd ((sl.step s).step s2) p2 (fun kvs ks ds n3 Hb3 H3 s3 e3 h3 p3 => ?_) ((x.step s).step s2)
    have z := q ((k, u) :: kvs) (k :: ks) (d :: ds) n3 Hb3 H3 ((s.trans s2).trans s3) (by rw [List.map_cons, e3]) (.cons (hu.up s3.ex) h3) p3
    rw [key_rel hv ek]
    exact z
theorem merge_nodup : ∀ {kvs acc : List (Key × V)}, ((acc ++ kvs).map (·.1)).Nodup → mergeK acc kvs = acc ++ kvs
  | [], acc, _ => by simp [mergeK]
  | (k, v) :: kvs, acc, h => by
    have e : putK acc k v = acc ++ [(k, v)] := by
      refine putK_new v ?_
      cases q : valV acc k with
      | none => rfl
      | some u =>
        rw [List.map_append, List.nodup_append] at h
        have hm : k ∈ acc.map (·.1) := by
          unfold valV at q
          cases f : acc.find? fun kv => decide (kv.1 = k) with
          | none => rw [f] at q; cases q
          | some kv =>
            have h1 := List.mem_of_find?_eq_some f
            have h2 := List.find?_some f
            simp at h2
            exact List.mem_map.mpr ⟨kv, h1, h2⟩
        exact absurd rfl (h.2.2 k hm k (by simp))
    show mergeK (putK acc k v) kvs = _
    rw [e, merge_nodup (acc := acc ++ [(k, v)]) (by simpa using h)]
    simp
theorem rd_disp {trs : List (TE × TE)} {prs : List (DT × DT)} (h : RdP K T S E trs prs) : DL.Rd K T S E (tDisp trs) (xDisp prs) := fun σ ρ Hb H n P XP Q w sl hp q x p hn => by
  have s0 : Stp K T S Hb H n Hb (upd H p (.dK [])) n := .newO w hn
  obtain ⟨n1, n2, n3⟩ := w.nS (fresh_none hn)
  refine rd_pairs h s0.wd (sl.step s0) hp (fun kvs ks ds n' Hb' H' s ek hd p1 => ?_) (x.step s0)
  obtain ⟨hnd, hl, p1⟩ := p1
  obtain ⟨g1, g2⟩ := s.own p _ upd_same (free_of w.ex hn) n1 n2 (fun ps z => by cases z)
  have el : kvs.length = ks.length := by rw [← ek, List.length_map]
  refine ⟨g1, kvs, rfl, by omega, ?_⟩
  have em : mergeK [] kvs = kvs := by
    rw [merge_nodup (by rw [List.nil_append, ek]; exact hnd)]
    rfl
  rw [em]
  refine q _ _ n' _ _ ((s0.trans s).freeze (o := .dK kvs) (fresh_none hn) g2 (by rw [g1]; exact fun z => by cases z) (fun ps z => by rw [g1] at z; cases z) (fun c u z => by rw [g1] at z; exact codeO_no (o := .dK []) (fun _ z => by cases z) (Option.some.inj z)) n1 n2 n3) (.dic upd_same ek (hd.up (Ex.new g2))) p1
def xDNew : DT := fun _ n P _ => P (.dic [] []) n
theorem rd_dnew : DL.Rd K T S E tDNewK xDNew := fun σ ρ Hb H n P XP Q w sl h q x p hp => q.new w hp (.dic upd_same rfl .nil) h
end
end DL

/-! defs by their promise on data -/
namespace DL
open L2 PySem PySem.Spec PyProof.Rows
open Evl (Ex ex_l ex_t sz_of)
def startS (N : List Str) (ss : List SV) : List SV := ss ++ List.replicate (N.length - ss.length) .no
def noOl : List SV → Bool
  | [] => true
  | .ol _ :: _ => false
  | .me _ _ _ _ :: _ => false
  | .od _ _ :: _ => false
  | .ot _ _ :: _ => false
  | _ :: ss => noOl ss
def noL : List SV → Bool
  | [] => true
  | .ol _ :: _ => false
  | _ :: ss => noL ss
theorem noL_of : ∀ {ss : List SV}, noOl ss = true → noL ss = true
  | [], _ => rfl
  | .ol _ :: _, h => by exact (Bool.noConfusion h)
  | .me _ _ _ _ :: _, h => by exact (Bool.noConfusion h)
  | .od _ _ :: _, h => by exact (Bool.noConfusion h)
  | .ot _ _ :: _, h => by exact (Bool.noConfusion h)
  | .fv _ :: ss, h => noL_of (ss := ss) h
  | .no :: ss, h => noL_of (ss := ss) h
  | .st :: ss, h => noL_of (ss := ss) h
  | .d _ :: ss, h => noL_of (ss := ss) h
section
variable {K : PySem.W.Frag} {T : Tb} {S : SA} {E : XK} {Hb H Hb1 H1 : Hp} {n n1 : Nat} {X : Cx}
theorem Args.get : ∀ {ss : List SV} {vs : List V} {i : Nat} {s : SV}, Args K S Hb H n ss vs → ss[i]? = some s → ∃ v, vs[i]? = some v ∧ SlotOk K S Hb H n s (some v)
  | [], _, i, s, _, e => by simp at e
  | s :: ss, _, 0, s', h, e => by
    cases h with
    | cons h1 h2 =>
      simp at e
      subst e
      exact ⟨_, rfl, h1⟩
  | s :: ss, _, i + 1, s', h, e => by
    cases h with
    | cons h1 h2 => exact Args.get (i := i) h2 (by simpa using e)
theorem noOl_get : ∀ {ss : List SV} {i : Nat} {s : SV}, noOl ss = true → ss[i]? = some s → isOwn s = false
  | [], i, s, _, e => by simp at e
  | .no :: _, 0, s, h, e => by simp at e; subst e; rfl
  | .st :: _, 0, s, h, e => by simp at e; subst e; rfl
  | .d _ :: _, 0, s, h, e => by simp at e; subst e; rfl
  | .ol _ :: _, _, s, h, e => by exact Bool.noConfusion h
  | .me _ _ _ _ :: _, _, s, h, e => by exact Bool.noConfusion h
  | .od _ _ :: _, _, s, h, e => by exact Bool.noConfusion h
  | .ot _ _ :: _, _, s, h, e => by exact Bool.noConfusion h
  | .fv _ :: _, 0, s, h, e => by simp at e; subst e; rfl
  | .fv _ :: ss, i + 1, s, h, e => noOl_get (ss := ss) (i := i) h (by simpa using e)
  | .no :: ss, i + 1, s, h, e => noOl_get (ss := ss) (i := i) h (by simpa using e)
  | .st :: ss, i + 1, s, h, e => noOl_get (ss := ss) (i := i) h (by simpa using e)
  | .d _ :: ss, i + 1, s, h, e => noOl_get (ss := ss) (i := i) h (by simpa using e)
theorem noL_get : ∀ {ss : List SV} {i : Nat} {xs : List D}, noL ss = true → ss[i]? ≠ some (.ol xs)
  | [], i, xs, _ => by simp
  | s :: ss, 0, xs, h => by
    intro e
    simp at e
    subst e
    exact absurd h (by simp [noL])
  | s :: ss, i + 1, xs, h => by
    have h' : noL ss = true := by cases s <;> first | exact h | (exact absurd h (by simp [noL]))
    simpa using noL_get (i := i) h'
theorem start_cases {N : List Str} {ss : List SV} {i : Nat} {s : SV} (ei : (startS N ss)[i]? = some s) : ss[i]? = some s ∨ s = .no := by
  unfold startS at ei
  by_cases hi : i < ss.length
  · rw [List.getElem?_append_left hi] at ei
    exact .inl ei
  · rw [List.getElem?_append_right (by omega), List.getElem?_replicate] at ei
    split at ei
    · exact .inr (Option.some.inj ei).symm
    · cases ei
theorem start_no {N : List Str} {ss : List SV} {i : Nat} {xs : List D} (ho : noL ss = true) (ei : (startS N ss)[i]? = some (.ol xs)) : False := by
  rcases start_cases ei with h | h
  · exact absurd h (noL_get ho)
  · cases h
theorem start_fr {N : List Str} {ss : List SV} {σ : L2.St} {H0 : Hp} (ho : noOl ss = true) : OwF H0 (startS N ss) σ := fun _ _ _ ei eo _ => by
  rcases start_cases ei with h | h
  · rw [noOl_get ho h] at eo
    cases eo
  · subst h
    cases eo
theorem Slots.start {N : List Str} {ss : List SV} {vs : List V} (h : Args K S Hb H n ss vs) (ho : noL ss = true) : Slots K S Hb H n (startS N ss) (L2.start N vs) where
  len := by
    unfold startS L2.start
    rw [List.length_append, List.length_append, List.length_map, List.length_replicate, List.length_replicate, h.len]
  ok := fun i s e => by
    unfold startS at e
    unfold L2.start
    have hl := h.len
    by_cases hi : i < ss.length
    · rw [List.getElem?_append_left hi] at e
      obtain ⟨v, ev, hv⟩ := h.get e
      refine ⟨some v, ?_, hv⟩
      rw [List.getElem?_append_left (by rw [List.length_map, ← hl]; exact hi), List.getElem?_map, ev]
      rfl
    · rw [List.getElem?_append_right (by omega)] at e
      have es : s = .no := by
        rw [List.getElem?_replicate] at e
        split at e
        · exact (Option.some.inj e).symm
        · cases e
      subst es
      have hlt : i - ss.length < N.length - ss.length := by
        have := (List.getElem?_eq_some_iff.mp e).1
        simpa using this
      refine ⟨none, ?_, trivial⟩
      rw [List.getElem?_append_right (by rw [List.length_map]; omega), List.length_map, List.getElem?_replicate, if_pos (by omega)]
  ap := fun i j p xs ys _ ei _ _ _ => (start_no ho ei).elim

/-- a promise on data, no error -/
abbrev DSp0 := List SV → Nat → DQ → Prop
def sp0 (K : PySem.W.Frag) (T : Tb) (DS : DSp0) : Sp := spOf K T (fun ss n P _ => noOl ss = true ∧ DS ss n P)
def spX (K : PySem.W.Frag) (T : Tb) (DS : DSp) : Sp := spOf K T (fun ss n P XP => noOl ss = true ∧ DS ss n P XP)
variable {P : Program} {w : PySem.World} {mg : Str → Option Value} {base : Heap}
theorem _root_.L2.Fun.okD {x qual : Str} {st : Stmt} {f : Addr} {fd : FuncData} {N ps : List Str} {k : Nat} {DS : DSp0} (F : Fun K x qual st f fd) (Sc : FnScope N ps (defScope st)) (len : ∀ ss n P, DS ss n P → ss.length = ps.length)
    (hb : ∀ (S : SA) (cdv : Value) (A : Around) (outer : List Env) (s : Shared) (H : Hp) (E : XK), Room k (A.deeper (envOfC qual (defScope st) s.heap.objs.size f cdv)) →
      ∃ ts G, PSs (cxOf CX0 P w K mg base N qual (defScope st) f cdv A outer s H E).nox (defBody st) ts ∧ RdS K T S E0 ts G ∧ ∀ ss n P, DS ss n P → G { nx := fun _ n => P .non n, rt := P } (startS N ss) n xF) :
    FnOk P w K mg base CX0 (k + 1) f fd ps (sp0 K T DS) := by
  refine F.ok Sc (fun vs H Q E h => ?_) (fun cdv A outer s H vs Q E hr h => ?_)
  · obtain ⟨S, Hb, n, ss, P, XP, _, ha, ⟨_, hd⟩, _⟩ := h
    rw [← ha.len]
    exact len ss n P hd
  · obtain ⟨S, Hb, n, ss, P, XP, wd, ha, ⟨ho, hd⟩, q, _⟩ := h
    obtain ⟨ts, G, h1, h2, h3⟩ := hb S cdv A outer s H E hr
    refine ⟨ts, h1, h2 _ _ Hb H n Hb H n _ xF _ (.refl wd) ⟨.start ha (noL_of ho), start_fr ho⟩ (h3 ss n P hd) ⟨fun ρ σ n' Hb' H' _ st _ p => q _ _ _ _ _ st .non p, q, fun _ _ _ _ _ _ _ _ p => p.elim, fun _ _ _ _ _ _ _ _ p => p.elim⟩ .none⟩
theorem _root_.L2.Fun.okXD {x qual : Str} {st : Stmt} {f : Addr} {fd : FuncData} {N ps : List Str} {k : Nat} {DS : DSp} (F : Fun K x qual st f fd) (Sc : FnScope N ps (defScope st)) (len : ∀ ss n P XP, DS ss n P XP → ss.length = ps.length)
    (hb : ∀ (S : SA) (cdv : Value) (A : Around) (outer : List Env) (s : Shared) (H : Hp) (E : XK), Room k (A.deeper (envOfC qual (defScope st) s.heap.objs.size f cdv)) →
      ∃ ts G, PSs (cxOf (L2.CX P w) P w K mg base N qual (defScope st) f cdv A outer s H E) (defBody st) ts ∧ RdS K T S E ts G ∧ ∀ ss n P XP, DS ss n P XP → G { nx := fun _ n => P .non n, rt := P } (startS N ss) n XP) :
    FnOk P w K mg base (L2.CX P w) (k + 1) f fd ps (spX K T DS) := by
  refine F.okX Sc (fun vs H Q E h => ?_) (fun cdv A outer s H vs Q E hr h => ?_)
  · obtain ⟨S, Hb, n, ss, P, XP, _, ha, ⟨_, hd⟩, _⟩ := h
    rw [← ha.len]
    exact len ss n P XP hd
  · obtain ⟨S, Hb, n, ss, P, XP, wd, ha, ⟨ho, hd⟩, q, x⟩ := h
    obtain ⟨ts, G, h1, h2, h3⟩ := hb S cdv A outer s H E hr
    refine ⟨ts, h1, h2 _ _ Hb H n Hb H n _ XP _ (.refl wd) ⟨.start ha (noL_of ho), start_fr ho⟩ (h3 ss n P XP hd) ⟨fun ρ σ n' Hb' H' _ st _ p => q _ _ _ _ _ st .non p, q, fun _ _ _ _ _ _ _ _ p => p.elim, fun _ _ _ _ _ _ _ _ p => p.elim⟩ x⟩

/-! ### calls -/
def xCall0 (DS : DSp0) (G : DTA) : DT := fun ρ n P XP => G ρ n (fun ss n1 => noOl ss = true ∧ DS ss n1 P) XP
def xCallX (DS : DSp) (G : DTA) : DT := fun ρ n P XP => G ρ n (fun ss n1 => noOl ss = true ∧ DS ss n1 P XP) XP
theorem rd_call0 {DS : DSp0} {ta : TA} {G : DTA} {E : XK} {E' : XK} (h : RdA K T S E' ta G) : DL.Rd K T S E' (tCall (sp0 K T DS) [] E ta) (xCall0 DS G) := fun σ ρ Hb H n P XP Q w sl hf q x =>
  h σ ρ Hb H n _ XP _ w sl hf (fun ss vs n1 Hb1 H1 s ha p => by
    show sp0 K T DS (vs ++ []) H1 Q E
    rw [List.append_nil]
    exact ⟨S, Hb1, n1, ss, P, xF, s.wd, ha, p, q.step s, .none⟩) x
theorem rd_callX {DS : DSp} {ta : TA} {G : DTA} (h : RdA K T S E ta G) : DL.Rd K T S E (tCall (spX K T DS) [] E ta) (xCallX DS G) := fun σ ρ Hb H n P XP Q w sl hf q x =>
  h σ ρ Hb H n _ XP _ w sl hf (fun ss vs n1 Hb1 H1 s ha p => by
    show spX K T DS (vs ++ []) H1 Q E
    rw [List.append_nil]
    exact ⟨S, Hb1, n1, ss, P, XP, s.wd, ha, p, q.step s, x.step s⟩) x
/-- a def that may raise, called where it does not -/
theorem rd_callN {DS : DSp} {ta : TA} {G : DTA} {E' : XK} (h : RdA K T S E' ta G) : DL.Rd K T S E' (tCall (spX K T DS) [] E0 ta) (fun ρ n P XP => G ρ n (fun ss n1 => noOl ss = true ∧ DS ss n1 P xF) XP) := fun σ ρ Hb H n P XP Q w sl hf q x =>
  h σ ρ Hb H n _ XP _ w sl hf (fun ss vs n1 Hb1 H1 s ha p => by
    show spX K T DS (vs ++ []) H1 Q E0
    rw [List.append_nil]
    exact ⟨S, Hb1, n1, ss, P, xF, s.wd, ha, p, q.step s, .none⟩) x
end
end DL

/-! how a def stands behind the top; the first words for goals on data -/
namespace DL
open L2 PySem PySem.Spec PyProof.Rows
/-- a def of the text as the top leaves it -/
def DefAt (K : PySem.W.Frag) (mg : Str → Option Value) (name : Str) (st : Stmt) (ps : List Str) : Prop :=
  ∃ f fd, Fun K name name st f fd ∧ mg name = some (.ref f) ∧ PySem.W.keepIn K (.ref f) = true ∧ Binds K fd ps []
/-- a def with its promise -/
def Has (P : Program) (w : PySem.World) (K : PySem.W.Frag) (mg : Str → Option Value) (base : Heap) (CX : CXT) (k : Nat) (name : Str) (ps : List Str) (sp : Sp) : Prop :=
  ∃ f fd, FnOk P w K mg base CX k f fd ps sp ∧ mg name = some (.ref f) ∧ PySem.W.keepIn K (.ref f) = true ∧ Binds K fd ps []
theorem slotD_zero {x : D} {ρ : List SV} {k : D → Prop} : slotD (.d x :: ρ) 0 k = k x := rfl
theorem slotD_succ {s : SV} {ρ : List SV} {i : Nat} {k : D → Prop} : slotD (s :: ρ) (i + 1) k = slotD ρ i k := rfl
def isInt : D → Bool
  | .int _ => true
  | _ => false
end DL

/-! lists of one's own -/
namespace DL
open L2 PySem PySem.Spec PyProof.Rows
open Evl (Ex ex_l ex_t sz_of)
section
variable {K : PySem.W.Frag} {T : Tb} {S : SA} {E : XK} {Hb H Hb1 H1 : Hp} {n n1 : Nat} {te : TE} {FE : DT}
def slotO (ρ : List SV) (i : Nat) (k : List D → Prop) : Prop := match ρ[i]? with
  | some (.ol x) => k x
  | _ => False
theorem slotO_zero {x : List D} {ρ : List SV} {k : List D → Prop} : slotO (.ol x :: ρ) 0 k = k x := rfl
theorem slotO_succ {s : SV} {ρ : List SV} {i : Nat} {k : List D → Prop} : slotO (s :: ρ) (i + 1) k = slotO ρ i k := rfl
theorem Slots.own {ρ : List SV} {σ : L2.St} {i : Nat} {k : List D → Prop} (sl : Slots K S Hb H n ρ σ) (h : slotO ρ i k) : ∃ xs p vs, ρ[i]? = some (.ol xs) ∧ σ[i]? = some (some (.ref p)) ∧ H p = some (.lst vs) ∧ Hb p = none ∧ p ≠ S.a ∧ p ≠ S.l ∧ p ≠ S.c ∧ DnA K Hb vs xs ∧ k xs := by
  unfold slotO at h
  cases e : ρ[i]? with
  | none => rw [e] at h; exact h.elim
  | some s =>
    rw [e] at h
    cases s with
    | ol xs =>
      obtain ⟨o, e1, p, vs, e2, e3, e4, e5, e6, e8, e7⟩ := sl.ok i _ e
      exact ⟨xs, p, vs, rfl, by rw [e1, e2], e3, e4, e5, e6, e8, e7, h⟩
    | no => exact h.elim
    | st => exact h.elim
    | d x => exact h.elim
    | me _ _ _ _ => exact h.elim
    | od _ _ => exact h.elim
    | ot _ _ => exact h.elim
    | fv _ => exact h.elim
/-- a slot gets a list of one's own -/
theorem Slots.setO {ρ : List SV} {σ : L2.St} {i : Nat} {p : Addr} {vs : List V} {xs : List D} (sl : Slots K S Hb H n ρ σ) (h1 : H p = some (.lst vs)) (h2 : Hb p = none) (h3 : p ≠ S.a) (h4 : p ≠ S.l) (h4c : p ≠ S.c) (h5 : DnA K Hb vs xs)
    (fr : ∀ (j : Nat) (ys : List D), ρ[j]? = some (.ol ys) → σ[j]? ≠ some (some (.ref p))) : Slots K S Hb H n (ρ.set i (.ol xs)) (σ.set i (some (.ref p))) where
  len := by rw [List.length_set, List.length_set]; exact sl.len
  ok := fun j s e => by
    by_cases hj : i = j
    · subst hj
      have hl : i < ρ.length := by
        have := (List.getElem?_eq_some_iff.mp e).1
        rwa [List.length_set] at this
      rw [List.getElem?_set_self hl] at e
      cases e
      exact ⟨_, List.getElem?_set_self (by rw [← sl.len]; exact hl), p, vs, rfl, h1, h2, h3, h4, h4c, h5⟩
    · rw [List.getElem?_set_ne hj] at e
      obtain ⟨o, e1, e2⟩ := sl.ok j s e
      exact ⟨o, by rw [List.getElem?_set_ne hj]; exact e1, e2⟩
  ap := fun j k q ys zs hjk ej ek sj sk => by
    by_cases hj : i = j
    · subst hj
      have hk : i ≠ k := hjk
      rw [List.getElem?_set_ne hk] at ek sk
      have hl : i < ρ.length := by
        have := (List.getElem?_eq_some_iff.mp ej).1
        rwa [List.length_set] at this
      rw [List.getElem?_set_self (by rw [← sl.len]; exact hl)] at sj
      have eq : p = q := V.ref.inj (Option.some.inj (Option.some.inj sj))
      subst eq
      exact fr k zs ek sk
    · by_cases hk : i = k
      · subst hk
        rw [List.getElem?_set_ne hj] at ej sj
        have hl : i < ρ.length := by
          have := (List.getElem?_eq_some_iff.mp ek).1
          rwa [List.length_set] at this
        rw [List.getElem?_set_self (by rw [← sl.len]; exact hl)] at sk
        have eq : p = q := V.ref.inj (Option.some.inj (Option.some.inj sk))
        subst eq
        exact fr j ys ej sj
      · rw [List.getElem?_set_ne hj] at ej sj
        rw [List.getElem?_set_ne hk] at ek sk
        exact sl.ap j k q ys zs hjk ej ek sj sk
/-- the step that rewrites a list of one's own; what others hold stays -/
theorem own_write {ρ : List SV} {σ : L2.St} {i : Nat} {p : Addr} {vs us : List V} {xs ys : List D} (w : World T S Hb H) (sl : Slots K S Hb H n ρ σ) (ei : ρ[i]? = some (.ol xs)) (es : σ[i]? = some (some (.ref p))) (h1 : H p = some (.lst vs)) (h2 : Hb p = none) (h3 : p ≠ S.a) (h4 : p ≠ S.l)
    (h6 : DnA K Hb us ys) (hpc : p ≠ S.c) : World T S Hb (upd H p (.lst us)) ∧ Slots K S Hb (upd H p (.lst us)) n (ρ.set i (.ol ys)) σ := by
  have hnt : ∀ q ∈ T, q.1 ≠ p := fun q hq z => by
    obtain ⟨ps, e, _⟩ := w.tabs q hq
    rw [z, h1] at e
    cases e
  have keep : ∀ {b : Addr} {o : HO}, H b = some o → b ≠ p → upd H p (.lst us) b = some o := fun e hb => by rw [upd_ne hb]; exact e
  refine ⟨⟨fun b o e => keep (w.ex b o e) (fun z => by rw [z, h2] at e; cases e), fun q hq => ?_, w.tb, ?_, ?_, ?_, w.nt⟩, ?_⟩
  · obtain ⟨ps, e, t1, t2⟩ := w.tabs q hq
    refine ⟨ps, keep e (hnt q hq), t1, fun pos cv hcv => ?_⟩
    obtain ⟨c, e1, e2⟩ := t2 pos cv hcv
    exact ⟨c, e1, keep e2 (fun z => by rw [z, h1] at e2; exact codeO_no (o := .lst vs) (fun _ z => by cases z) (Option.some.inj e2))⟩
  · exact w.sa.upd fun _ z => by cases z
  · exact w.sl.upd fun _ z => by cases z
  · exact w.sc.upd fun _ z => by cases z
  · refine ⟨by rw [List.length_set]; exact sl.len, fun j s e => ?_, fun j k q y z hjk ej ek sj sk => ?_⟩
    · by_cases hj : i = j
      · subst hj
        have hl : i < ρ.length := (List.getElem?_eq_some_iff.mp ei).1
        rw [List.getElem?_set_self hl] at e
        cases e
        exact ⟨_, es, p, us, rfl, upd_same, h2, h3, h4, hpc, h6⟩
      · rw [List.getElem?_set_ne hj] at e
        obtain ⟨o, e1, e2⟩ := sl.ok j s e
        refine ⟨o, e1, ?_⟩
        cases s with
        | no => trivial
        | d x => exact e2
        | st =>
          obtain ⟨e3, st⟩ := e2
          obtain ⟨g1, g2, ls, cs, m, t, g3, g4, g5, g6, g7, g8, rest⟩ := st
          exact ⟨e3, g1, g2, ls, cs, m, t, g3, g4, g5, keep g6 h3.symm, keep g7 h4.symm, g8, rest⟩
        | ol zs =>
          obtain ⟨q, ws, e3, e4, e5, e6, e7, e9, e8⟩ := e2
          have hqp : q ≠ p := fun z => by
            subst z
            exact sl.ap i j q xs zs hj ei e es (by rw [e1, e3])
          exact ⟨q, ws, e3, keep e4 hqp, e5, e6, e7, e9, e8⟩
        | me y C ms es2 =>
          obtain ⟨e3, dx, fs, e4, rest⟩ := e2
          exact ⟨e3, dx, fs, keep e4 (fun z => by rw [z, h1] at e4; cases e4), rest⟩
        | od ks es2 =>
          obtain ⟨q, kvs, e3, e4, rest⟩ := e2
          exact ⟨q, kvs, e3, keep e4 (fun z => by rw [z, h1] at e4; cases e4), rest⟩
        | ot ks es2 =>
          obtain ⟨q, kvs, e3, e4, rest⟩ := e2
          exact ⟨q, kvs, e3, keep e4 (fun z => by rw [z, h1] at e4; cases e4), rest⟩
        | fv F =>
          obtain ⟨f, c, e3, e4, e5, rest⟩ := e2
          exact ⟨f, c, e3, e4, keep e5 (fun z => by rw [z, h1] at e5; exact codeO_no (o := .lst vs) (fun _ z => by cases z) (Option.some.inj e5)), rest⟩
    · have f : ∀ {m : Nat} {u : List D}, (ρ.set i (.ol ys))[m]? = some (.ol u) → ∃ u', ρ[m]? = some (.ol u') := fun {m u} e => by
        by_cases hm : i = m
        · subst hm
          exact ⟨xs, ei⟩
        · rw [List.getElem?_set_ne hm] at e
          exact ⟨u, e⟩
      obtain ⟨y', ey⟩ := f ej
      obtain ⟨z', ez⟩ := f ek
      exact sl.ap j k q y' z' hjk ey ez sj sk
/-- y = [..], a list of one's own -/
theorem rds_setO {i : Nat} {F : DTL} (h1 : RdN K T S E te F) : RdS K T S E (tAsg te (gName i)) (xsSetO i F) := fun σ ρ Hb0 H0 n0 Hb H n DD XP D a sl h q x =>
  h1 σ ρ Hb H n _ XP _ a.wd sl.sl h (fun ds p vs n1 Hb1 H1 s hp e1 e2 hd pp => by
    obtain ⟨m1, m2, m3⟩ := a.wd.nS hp
    refine q.nx _ _ n1 Hb1 H1 s.ex (a.trans s) ⟨(sl.sl.step s).setO e1 e2 m1 m2 m3 hd (fun j ys ej sj => ?_), fun j xs r ej eo sj => ?_⟩ pp
    · obtain ⟨o, g1, r, ws, g2, g3, _⟩ := sl.sl.ok j _ ej
      rw [g1, g2] at sj
      have er : r = p := V.ref.inj (Option.some.inj (Option.some.inj sj))
      rw [er] at g3
      exact absurd rfl (hp.ne g3 fun _ z => by cases z)
    · by_cases hj : i = j
      · subst hj
        have hl : i < ρ.length := by
          have := (List.getElem?_eq_some_iff.mp ej).1
          rwa [List.length_set] at this
        rw [List.getElem?_set_self (by rw [← sl.sl.len]; exact hl)] at sj
        have er : p = r := V.ref.inj (Option.some.inj (Option.some.inj sj))
        rw [← er]
        exact a.dm p hp
      · rw [List.getElem?_set_ne hj] at ej sj
        exact sl.fr j xs r ej eo sj) (x.step a)
/-- xs[e], xs of one's own -/
def xIxO (i : Nat) (G : DT) : DT := fun ρ n P XP => slotO ρ i fun xs => G ρ n (fun d n1 => match d with | .int j => ∃ y, atD xs j = some y ∧ P y n1 | _ => False) XP
theorem rd_ixO {i : Nat} (h1 : DL.Rd K T S E te FE) : DL.Rd K T S E (tOp (rIx K) (tVar i) te) (xIxO i FE) := fun σ ρ Hb H n P XP Q w sl h q x => by
  obtain ⟨xs, p, vs, e, es, e3, e4, e5, e6, e8, e7, h⟩ := sl.own h
  refine ⟨.ref p, es, ?_⟩
  refine h1 σ ρ Hb H n _ XP _ w sl h (fun d v n1 Hb1 H1 s hd pp => ?_) x
  cases hd with
  | int j =>
    obtain ⟨y, ey, pp⟩ := pp
    obtain ⟨g1, g2⟩ := s.own p _ e3 e4 e5 e6 (fun ps z => by cases z)
    obtain ⟨u, eu, hu⟩ := (e7.up s.ex).at ey
    exact .inl ⟨p, vs, j, u, rfl, rfl, SqL.of g1, eu, q _ _ n1 Hb1 H1 s hu pp⟩
  | _ => exact pp.elim
/-- len(xs), tuple(xs), list(xs) -/
def xLenO (i : Nat) : DT := fun ρ n P _ => slotO ρ i fun xs => P (.int xs.length) n
theorem rd_lenO {i : Nat} : DL.Rd K T S E (tCB (rLenU K) (tCons (tVar i) tNil)) (xLenO i) := fun σ ρ Hb H n P XP Q w sl h q x => by
  obtain ⟨xs, p, vs, e, es, e3, e4, e5, e6, e8, e7, h⟩ := sl.own h
  exact ⟨.ref p, es, .inl ⟨p, vs, rfl, .inl (SqL.of e3), q.now w (.int _) (by rw [e7.len]; exact h)⟩⟩
def xTupO (i : Nat) : DT := fun ρ n P _ => slotO ρ i fun xs => P (.tup xs) n
theorem rd_tupO {i : Nat} : DL.Rd K T S E (tCB (rTupOf K) (tCons (tVar i) tNil)) (xTupO i) := fun σ ρ Hb H n P XP Q w sl h q x => by
  obtain ⟨xs, p, vs, e, es, e3, e4, e5, e6, e8, e7, h⟩ := sl.own h
  exact ⟨.ref p, es, p, vs, rfl, .inl ⟨SqL.of e3, fun l hl => q.new w hl (.tup (SqT.of upd_same) (e7.up (Ex.new (free_of w.ex hl)))) h⟩⟩
/-- a statement that rewrites a list of one's own -/
theorem own_stmt {i : Nat} {ρ : List SV} {σ : L2.St} {p : Addr} {vs us : List V} {xs ys : List D} {Hb0 H0 : Hp} {n0 : Nat} {DD : DEn} {D : Ends} (a : Stp K T S Hb0 H0 n0 Hb H n) (sl : Sl0 K S H0 Hb H n ρ σ) (q : EOk K T S Hb0 H0 n0 Hb DD D)
    (ei : ρ[i]? = some (.ol xs)) (es : σ[i]? = some (some (.ref p))) (h1 : H p = some (.lst vs)) (h2 : Hb p = none) (h3 : p ≠ S.a) (h4 : p ≠ S.l) (hc : p ≠ S.c) (h6 : DnA K Hb us ys) (pp : DD.nx (ρ.set i (.ol ys)) n) : D.nx σ (upd H p (.lst us)) := by
  have f0 : Fresh H0 p := sl.fr i _ p ei rfl es
  obtain ⟨w', sl'⟩ := own_write (us := us) (ys := ys) a.wd sl.sl ei es h1 h2 h3 h4 h6 hc
  refine q.nx _ _ n Hb _ (Ex.refl _) ⟨a.ex, w', fun h0 => ?_, fun b o e1 e2 e3 e4 e5 => ?_, fun b e => a.dm b (dm_upd (fun _ z => by cases z) b e)⟩ ⟨sl', fun j zs r ej eo sj => ?_⟩ pp
  · obtain ⟨g1, g2, ls, cs, m, t, g3, g4, g5, g6, g7, g8, rest⟩ := a.st h0
    exact ⟨g1, g2, ls, cs, m, t, g3, g4, g5, by rw [upd_ne h3.symm]; exact g6, by rw [upd_ne h4.symm]; exact g7, g8, rest⟩
  · have hb : b ≠ p := f0.ne e1 e5
    rw [upd_ne hb]
    exact a.own0 b o e1 e2 e3 e4 e5
  · by_cases hj : i = j
    · subst hj
      rw [es] at sj
      cases sj
      exact f0
    · rw [List.getElem?_set_ne hj] at ej
      exact sl.fr j zs r ej eo sj
/-- xs[e] = e2 -/
def xsPutO (i : Nat) (F G : DT) : DTS := fun DD ρ n XP => slotO ρ i fun xs => F ρ n (fun d n1 => G ρ n1 (fun k n2 => match k with
  | .int j => ∃ m, ixN xs.length j = some m ∧ DD.nx (ρ.set i (.ol (xs.set m d))) n2
  | _ => False) XP) XP
theorem DnA.set {vs : List V} {ds : List D} {v : V} {d : D} (hv : Dn K H v d) : ∀ (m : Nat) {vs : List V} {ds : List D}, DnA K H vs ds → DnA K H (vs.set m v) (ds.set m d)
  | _, _, _, .nil => by simp; exact .nil
  | 0, _, _, .cons h1 h2 => .cons hv h2
  | m + 1, _, _, .cons h1 h2 => .cons h1 (DnA.set (vs := []) (ds := []) hv m h2)
theorem rds_putO {i : Nat} {ti : TE} {GE : DT} (h1 : DL.Rd K T S E te FE) (h2 : DL.Rd K T S E ti GE) : RdS K T S E (tAsg te (gSub (tVar i) ti rSetL)) (xsPutO i FE GE) := fun σ ρ Hb0 H0 n0 Hb H n DD XP D a sl h q x => by
  obtain ⟨xs, p, vs, e, es, e3, e4, e5, e6, e8, e7, h⟩ := sl.sl.own h
  refine h1 σ ρ Hb H n _ XP _ a.wd sl.sl h (fun d v n1 Hb1 H1 s hd pp => ?_) (x.step a)
  refine ⟨.ref p, es, ?_⟩
  refine h2 σ ρ Hb1 H1 n1 _ XP _ s.wd (sl.step s).sl pp (fun k u n2 Hb2 H2 s2 hk p2 => ?_) ((x.step a).step s)
  obtain ⟨g1, g2⟩ := (s.trans s2).own p _ e3 e4 e5 e6 (fun ps z => by cases z)
  have h7 := (e7.up s.ex).up s2.ex
  cases hk with
  | int j =>
    obtain ⟨m, em, p2⟩ := p2
    refine ⟨p, vs, j, m, rfl, rfl, g1, by rw [e7.len]; exact em, ?_⟩
    exact own_stmt ((a.trans s).trans s2) ((sl.step s).step s2) (q.up (s.ex.trans s2.ex)) e es g1 g2 e5 e6 e8 (DnA.set (vs := []) (ds := []) (hd.up s2.ex) m h7) p2
  | _ => exact p2.elim
/-- xs.append(e) -/
def xsAppO (i : Nat) (F : DT) : DTS := fun DD ρ n XP => slotO ρ i fun xs => F ρ n (fun d n1 => xs.length < 100000 ∧ DD.nx (ρ.set i (.ol (xs ++ [d]))) n1) XP
theorem rds_appO {i : Nat} (h1 : DL.Rd K T S E te FE) : RdS K T S E (tDrop (tBM K "list" rAppend (tVar i) (tCons te tNil))) (xsAppO i FE) := fun σ ρ Hb0 H0 n0 Hb H n DD XP D a sl h q x => by
  obtain ⟨xs, p, vs, e, es, e3, e4, e5, e6, e8, e7, h⟩ := sl.sl.own h
  refine ⟨.ref p, es, .inl ⟨rfl, vs, SqL.of e3⟩, ?_⟩
  refine h1 σ ρ Hb H n _ XP _ a.wd sl.sl h (fun d v n1 Hb1 H1 s hd pp => ?_) (x.step a)
  obtain ⟨g1, g2⟩ := s.own p _ e3 e4 e5 e6 (fun ps z => by cases z)
  have h7 := e7.up s.ex
  exact ⟨p, vs, v, rfl, rfl, g1, Evl.sz_lt (by rw [e7.len]; exact pp.1), own_stmt (a.trans s) (sl.step s) (q.up s.ex) e es g1 g2 e5 e6 e8 (h7.app (.one hd)) pp.2⟩
end
end DL

/-! the source of draws, as its two objects stand -/
namespace DL
open L2 PySem PySem.Spec PyProof.Rows
open Evl (Ex ex_l ex_t sz_of)
def stDict (S : SA) (m : Int) (t : Int) : List (Key × V) := [(kLarge, .ref S.l), (kCells, .ref S.c), (kLeft, .int m), (kTurn, .int t)]
theorem kne1 : ¬ kLarge = kCells := by decide +kernel
theorem kne2 : ¬ kLarge = kLeft := by decide +kernel
theorem kne3 : ¬ kLarge = kTurn := by decide +kernel
theorem kne4 : ¬ kCells = kLeft := by decide +kernel
theorem kne5 : ¬ kCells = kTurn := by decide +kernel
theorem kne6 : ¬ kLeft = kTurn := by decide +kernel
theorem st_large {S : SA} {m t : Int} : valV (stDict S m t) kLarge = some (.ref S.l) := by simp [valV, stDict]
theorem st_cells {S : SA} {m t : Int} : valV (stDict S m t) kCells = some (.ref S.c) := by simp [valV, stDict, kne1]
theorem st_left {S : SA} {m t : Int} : valV (stDict S m t) kLeft = some (.int m) := by simp [valV, stDict, kne2, kne4]
theorem st_turn {S : SA} {m t : Int} : valV (stDict S m t) kTurn = some (.int t) := by simp [valV, stDict, kne3, kne5, kne6]
theorem st_putL {S : SA} {m t k : Int} : putK (stDict S m t) kLeft (.int k) = stDict S k t := by
  simp [putK, stDict, kne2, kne4, Ne.symm (a := kLeft) (b := kTurn) kne6]
theorem st_putT {S : SA} {m t k : Int} : putK (stDict S m t) kTurn (.int k) = stDict S m k := by
  simp [putK, stDict, kne3, kne5, kne6]
/-- what a draw leaves as it was -/
structure Drw (S : SA) (H H' : Hp) : Prop where
  fr : ∀ b o, H b = some o → b ≠ S.a → b ≠ S.l → H' b = some o
  dm : ∀ b, Fresh H' b → Fresh H b
theorem Drw.refl {S : SA} (H : Hp) : Drw S H H := ⟨fun _ _ h _ _ => h, fun _ h => h⟩
theorem Drw.new {S : SA} {H H' : Hp} {p : Addr} {o : HO} (d : Drw S H H') (hp : H' p = none) (ho : ∀ ps, o ≠ .tbl ps := by intro _ z; cases z) : Drw S H (upd H' p o) := ⟨fun b u h h1 h2 => by
  have e := d.fr b u h h1 h2
  rw [upd_ne (ne_of_none e hp)]
  exact e, fun b h => d.dm b (dm_upd ho b h)⟩
theorem Drw.setA {S : SA} {H H' : Hp} {o : HO} (d : Drw S H H') (ho : ∀ ps, o ≠ .tbl ps := by intro _ z; cases z) : Drw S H (upd H' S.a o) := ⟨fun b u h h1 h2 => by
  rw [upd_ne h1]
  exact d.fr b u h h1 h2, fun b h => d.dm b (dm_upd ho b h)⟩
theorem Drw.setL {S : SA} {H H' : Hp} {o : HO} (d : Drw S H H') (ho : ∀ ps, o ≠ .tbl ps := by intro _ z; cases z) : Drw S H (upd H' S.l o) := ⟨fun b u h h1 h2 => by
  rw [upd_ne h2]
  exact d.fr b u h h1 h2, fun b h => d.dm b (dm_upd ho b h)⟩
/-- the source's two objects -/
structure StA (S : SA) (H : Hp) (ls : List Int) (m t : Int) : Prop where
  ea : H S.a = some (.dK (stDict S m t))
  el : H S.l = some (.lst (ls.map V.int))
theorem StA.new {S : SA} {H : Hp} {ls : List Int} {m t : Int} {p : Addr} {o : HO} (s : StA S H ls m t) (hp : H p = none) : StA S (upd H p o) ls m t :=
  ⟨by rw [upd_ne (ne_of_none s.ea hp)]; exact s.ea, by rw [upd_ne (ne_of_none s.el hp)]; exact s.el⟩
theorem StA.getL {S : SA} {H : Hp} {ls : List Int} {m t : Int} (s : StA S H ls m t) : DGet H S.a (.str "left") (some (.int m)) := by
  have e : (some (V.int m)) = valV (stDict S m t) kLeft := st_left.symm
  rw [e]
  exact DGet.k (k := kLeft) s.ea
theorem StA.getT {S : SA} {H : Hp} {ls : List Int} {m t : Int} (s : StA S H ls m t) : DGet H S.a (.str "turn") (some (.int t)) := by
  have e : (some (V.int t)) = valV (stDict S m t) kTurn := st_turn.symm
  rw [e]
  exact DGet.k (k := kTurn) s.ea
theorem StA.getG {S : SA} {H : Hp} {ls : List Int} {m t : Int} (s : StA S H ls m t) : DGet H S.a (.str "large") (some (.ref S.l)) := by
  have e : (some (V.ref S.l)) = valV (stDict S m t) kLarge := st_large.symm
  rw [e]
  exact DGet.k (k := kLarge) s.ea
theorem StA.getC {S : SA} {H : Hp} {ls : List Int} {m t : Int} (s : StA S H ls m t) : DGet H S.a (.str "cells") (some (.ref S.c)) := by
  have e : (some (V.ref S.c)) = valV (stDict S m t) kCells := st_cells.symm
  rw [e]
  exact DGet.k (k := kCells) s.ea
theorem st_len {S : SA} {m t : Int} : (stDict S m t).length < sizeLine := by show 4 < sizeLine; decide
theorem StA.putL {S : SA} {H : Hp} {ls : List Int} {m t k : Int} (s : StA S H ls m t) : DPut H S.a (.str "left") (.int k) (upd H S.a (.dK (stDict S k t))) := by
  have z := DPut.k (k := kLeft) (v := .int k) s.ea st_len
  rw [st_putL] at z
  exact z
theorem StA.putT {S : SA} {H : Hp} {ls : List Int} {m t k : Int} (s : StA S H ls m t) : DPut H S.a (.str "turn") (.int k) (upd H S.a (.dK (stDict S m k))) := by
  have z := DPut.k (k := kTurn) (v := .int k) s.ea st_len
  rw [st_putT] at z
  exact z
theorem ints_dp {K : PySem.W.Frag} {H : Hp} : ∀ (ns : List Int), DpAll K H (ns.map V.int) (ns.map PyData.int)
  | [] => .nil
  | n :: ns => .cons (.int n) (ints_dp ns)
theorem eqv_nil (ns : List Int) : PyData.eqv (.list (ns.map PyData.int)) (.list []) = ns.isEmpty := by
  cases ns with
  | nil => rfl
  | cons n ns => rfl
theorem lay_ints : ∀ ns : List Int, PyData.canLayAll0 (ns.map PyData.int) = true
  | [] => by simp [PyData.canLayAll0]
  | n :: ns => by simp [PyData.canLayAll0, PyData.canLay0, lay_ints ns]
theorem depth_ints : ∀ ns : List Int, PyData.depthAll (ns.map PyData.int) = 0
  | [] => by simp [PyData.depthAll]
  | n :: ns => by simp [PyData.depthAll, PyData.depth, depth_ints ns]
theorem shaped_ints (ns : List Int) : SeqAt.shaped (.list (ns.map PyData.int)) = true := by
  unfold SeqAt.shaped
  simp [PyData.canLay0, lay_ints ns, PyData.depth, depth_ints ns]
theorem shaped_nil : SeqAt.shaped (.list []) = true := shaped_ints []
/-- the draw's end: a step of ours -/
theorem draw_end {K : PySem.W.Frag} {T : Tb} {S : SA} {Hb H H' : Hp} {n : Nat} {ls : List Int} {m : Int} {t : Nat} (w : World T S Hb H) (st : StOk K S Hb H n) (d : Drw S H H') (s : StA S H' ls m t) (hm : 0 ≤ m) (hl : ∀ x ∈ ls, 0 ≤ x) (hn : ls.length ≤ 63) {n' : Nat} (ht : t ≤ n') : Stp K T S Hb H n Hb H' n' := by
  obtain ⟨g1, g2, ls0, cs0, m0, t0, g3, g4, g5, g6, g7, g8, k1, k2, k3, k4, k5, k6⟩ := st
  have nA : ∀ {b : Addr} {o : HO}, H b = some o → (∀ kvs, o ≠ .dK kvs) → b ≠ S.a := fun e h z => by
    rw [z, g6] at e
    cases e
    exact h _ rfl
  have nL : ∀ {b : Addr} {o : HO}, H b = some o → (∀ xs, o ≠ .lst xs) → b ≠ S.l := fun e h z => by
    rw [z, g7] at e
    cases e
    exact h _ rfl
  refine ⟨Ex.refl _, ⟨fun b o e => ?_, fun q hq => ?_, w.tb, ⟨_, s.ea, fun _ z => by cases z⟩, ⟨_, s.el, fun _ z => by cases z⟩, ⟨_, d.fr _ _ (w.ex _ _ g8) g4 g3, fun _ z => by cases z⟩, w.nt⟩, fun _ => ?_, fun b o e1 e2 e3 e4 _ => ⟨d.fr b o e1 e3 e4, .inl e2⟩, d.dm⟩
  · exact d.fr b o (w.ex b o e) (fun z => by rw [z, g1] at e; cases e) (fun z => by rw [z, g2] at e; cases e)
  · obtain ⟨ps, e, t1, t2⟩ := w.tabs q hq
    refine ⟨ps, d.fr _ _ e (nA e fun _ z => by cases z) (nL e fun _ z => by cases z), t1, fun pos cv hcv => ?_⟩
    obtain ⟨c, e1, e2⟩ := t2 pos cv hcv
    exact ⟨c, e1, d.fr _ _ e2 (nA e2 fun _ z => codeO_no (o := .dK _) (fun _ z => by cases z) z.symm) (nL e2 fun _ z => codeO_no (o := .lst _) (fun _ z => by cases z) z.symm)⟩
  · exact ⟨g1, g2, ls, cs0, m, t, g3, g4, g5, s.ea, s.el, g8, hl, k2, hm, ht, hn, k6⟩
section
variable {K : PySem.W.Frag} {T : Tb} {S : SA} {E : XK} {te : TE} {FE : DT}
theorem Slots.src {Hb H : Hp} {n : Nat} {ρ : List SV} {σ : L2.St} {i : Nat} (sl : Slots K S Hb H n ρ σ) (e : ρ[i]? = some .st) : σ[i]? = some (some (.ref S.a)) ∧ StOk K S Hb H n := by
  obtain ⟨o, e1, e2, e3⟩ := sl.ok i _ e
  exact ⟨by rw [e1, e2], e3⟩
def isSt (ρ : List SV) (i : Nat) : Prop := ρ[i]? = some .st
/-- state["left"], state["turn"], state["cells"] -/
def xStLeft (i : Nat) : DT := fun ρ n P _ => isSt ρ i ∧ ∀ m : Int, 0 ≤ m → P (.int m) n
def xStTurn (i : Nat) : DT := fun ρ n P _ => isSt ρ i ∧ ∀ t : Nat, t ≤ n → P (.int t) n
def xStCells (cs : List Int) (i : Nat) : DT := fun ρ n P _ => isSt ρ i ∧ ((∀ x ∈ cs, 0 ≤ x) → cs.length ≤ 63 → P (.lst (cs.map D.int)) n)
theorem rd_stLeft {i : Nat} : DL.Rd K T S E (tDGet (tVar i) (tC (.str "left"))) (xStLeft i) := fun σ ρ Hb H n P XP Q w sl h q x => by
  obtain ⟨e, st⟩ := sl.src h.1
  obtain ⟨ga, gl, ls, cs, m, t, _, _, _, e1, e2, _, _, _, k3, _⟩ := st
  exact ⟨_, e, S.a, _, rfl, (StA.mk e1 e2 : StA S H ls m t).getL, q.now w (.int m) (h.2 m k3)⟩
theorem rd_stTurn {i : Nat} : DL.Rd K T S E (tDGet (tVar i) (tC (.str "turn"))) (xStTurn i) := fun σ ρ Hb H n P XP Q w sl h q x => by
  obtain ⟨e, st⟩ := sl.src h.1
  obtain ⟨ga, gl, ls, cs, m, t, _, _, _, e1, e2, _, _, _, _, k4, _⟩ := st
  exact ⟨_, e, S.a, _, rfl, (StA.mk e1 e2 : StA S H ls m t).getT, q.now w (.int t) (h.2 t k4)⟩
theorem rd_stCells {i : Nat} : DL.Rd K T S E (tDGet (tVar i) (tC (.str "cells"))) (xStCells S.cs i) := fun σ ρ Hb H n P XP Q w sl h q x => by
  obtain ⟨e, st⟩ := sl.src h.1
  obtain ⟨ga, gl, ls, cs, m, t, _, _, _, e1, e2, e3, _, k2, _, _, _, k6⟩ := st
  exact ⟨_, e, S.a, _, rfl, (StA.mk e1 e2 : StA S H ls m t).getC, q.now w (.lst (SqL.of e3) (DnA.ints cs)) (by rw [← k6.2] at h; exact h.2 k2 k6.1)⟩
theorem st_step {ρ : List SV} {σ : L2.St} {Hb0 H0 Hb H H' : Hp} {n0 n n' : Nat} {DD : DEn} {D : Ends} (a : Stp K T S Hb0 H0 n0 Hb H n) (sl : Sl0 K S H0 Hb H n ρ σ) (q : EOk K T S Hb0 H0 n0 Hb DD D) (s : Stp K T S Hb H n Hb H' n') (p : DD.nx ρ n') : D.nx σ H' :=
  q.nx ρ σ n' Hb H' (Ex.refl _) (a.trans s) (sl.step s) p
/-- state["left"] = e, state["turn"] = e -/
def xsStLeft (i : Nat) (F : DT) : DTS := fun DD ρ n XP => F ρ n (fun d n1 => isSt ρ i ∧ match d with | .int m => 0 ≤ m ∧ DD.nx ρ n1 | _ => False) XP
def xsStTurn (i : Nat) (F : DT) : DTS := fun DD ρ n XP => F ρ n (fun d n1 => isSt ρ i ∧ match d with | .int m => 0 ≤ m ∧ DD.nx ρ m.toNat | _ => False) XP
theorem rds_stLeft {i : Nat} (h1 : DL.Rd K T S E te FE) : RdS K T S E (sDPut (tVar i) (tC (.str "left")) te) (xsStLeft i FE) := fun σ ρ Hb0 H0 n0 Hb H n DD XP D a sl h q x =>
  h1 σ ρ Hb H n _ XP _ a.wd sl.sl h (fun d v n1 Hb1 H1 s hd p => by
    obtain ⟨es, st⟩ := (sl.step s).sl.src p.1
    obtain ⟨ga, gl, ls, cs, m, t, g3, g4, g5, e1, e2, e3, k1, k2, k3, k4, k5, k6⟩ := id st
    have sA : StA S H1 ls m t := ⟨e1, e2⟩
    cases hd with
    | int m' =>
      refine ⟨_, es, S.a, _, rfl, sA.putL, st_step (a.trans s) (sl.step s) (q.up s.ex) (draw_end s.wd st (Drw.refl H1).setA ⟨upd_same, by rw [upd_ne g5.symm]; exact e2⟩ p.2.1 k1 k5 k4) p.2.2⟩
    | _ => exact p.2.elim) (x.step a)
theorem rds_stTurn {i : Nat} (h1 : DL.Rd K T S E te FE) : RdS K T S E (sDPut (tVar i) (tC (.str "turn")) te) (xsStTurn i FE) := fun σ ρ Hb0 H0 n0 Hb H n DD XP D a sl h q x =>
  h1 σ ρ Hb H n _ XP _ a.wd sl.sl h (fun d v n1 Hb1 H1 s hd p => by
    obtain ⟨es, st⟩ := (sl.step s).sl.src p.1
    obtain ⟨ga, gl, ls, cs, m, t, g3, g4, g5, e1, e2, e3, k1, k2, k3, k4, k5, k6⟩ := id st
    have sA : StA S H1 ls m t := ⟨e1, e2⟩
    cases hd with
    | int m' =>
      have em : m' = ((m'.toNat : Nat) : Int) := by have := p.2.1; omega
      refine ⟨_, es, S.a, _, rfl, sA.putT, st_step (a.trans s) (sl.step s) (q.up s.ex) (draw_end s.wd st (Drw.refl H1).setA (t := m'.toNat) ⟨?_, by rw [upd_ne g5.symm]; exact e2⟩ k3 k1 k5 (Nat.le_refl _)) p.2.2⟩
      rw [upd_same, ← em]
    | _ => exact p.2.elim) (x.step a)
/-- while state["left"] == 0 and state["large"] != []: state["left"] = state["large"].pop(0) -/
def xsLoop (i : Nat) : DTS := fun DD ρ n _ => isSt ρ i ∧ DD.nx ρ n
theorem rds_loop {i : Nat} : RdS K T S E (tWhile (tAnd (tTest (tOp (rEqD K) (tDGet (tVar i) (tC (.str "left"))) (tC (.int 0)))) (tTest (tOp (rNeD K) (tDGet (tVar i) (tC (.str "large"))) (tLst tNil))))
    (sDPut (tVar i) (tC (.str "left")) (tBM K "list" rPopAt (tDGet (tVar i) (tC (.str "large"))) (tCons (tC (.int 0)) tNil)))) (xsLoop i) := fun σ ρ Hb0 H0 n0 Hb H n DD XP D a sl h q x => by
  obtain ⟨es, st⟩ := sl.sl.src h.1
  obtain ⟨ga, gl, ls, cs, m, t, g3, g4, gc3, e1, e2, e3, k1, k2, k3, k4, k5, k6⟩ := id st
  refine ⟨fun k σ' H' => σ' = σ ∧ ∃ ls m, k = ls.length ∧ Drw S H H' ∧ StA S H' ls m t ∧ 0 ≤ m ∧ (∀ x ∈ ls, 0 ≤ x) ∧ ls.length ≤ 63, ⟨_, rfl, ls, m, rfl, .refl H, ⟨e1, e2⟩, k3, k1, k5⟩, ?_⟩
  rintro k σ' H' ⟨rfl, ls, m, rfl, d, sA, hm0, hl, hz⟩
  have fin : ∀ {H' : Hp} {ls : List Int} {m : Int}, Drw S H H' → StA S H' ls m t → 0 ≤ m → (∀ x ∈ ls, 0 ≤ x) → ls.length ≤ 63 → D.nx σ' H' := fun d sA h1 h2 h3 =>
    st_step a sl q (draw_end a.wd st d sA h1 h2 h3 k4) h.2
  by_cases hm1 : m = 0
  · subst hm1
    refine ⟨.ref S.a, es, S.a, .int 0, rfl, sA.getL, .int 0, .int 0, .int 0, .int 0, rfl, rfl, _, rfl, iteT ?_⟩
    refine ⟨.ref S.a, es, S.a, .ref S.l, rfl, sA.getG, Nat.zero_le _, fun p hp => ⟨.list (ls.map PyData.int), .list [], .lst (SqL.of (sA.new hp).el) (ints_dp ls), .lst (SqL.of upd_same) .nil, shaped_ints ls, shaped_nil, _, rfl, ?_⟩⟩
    rw [eqv_nil]
    cases ls with
    | nil => exact fin (d.new hp) (sA.new hp) (Int.le_refl _) (fun _ h => nomatch h) (Nat.zero_le _)
    | cons x r =>
      refine iteT ⟨fun σ2 H2 => σ2 = σ' ∧ Drw S H H2 ∧ StA S H2 r x t, fun σ2 H2 ⟨h1, h2, h3⟩ => ⟨r.length, by simp, h1, r, x, rfl, h2, h3, hl x List.mem_cons_self, fun y hy => hl y (List.mem_cons_of_mem _ hy), by simp at hz; omega⟩, ?_⟩
      have sA' := sA.new (o := .lst []) hp
      refine ⟨.ref S.a, es, S.a, .ref S.l, rfl, sA'.getG, .inl ⟨rfl, _, SqL.of sA'.el⟩, S.l, _, 0, 0, .int x, rfl, rfl, sA'.el, by decide, by decide, ?_, rfl, ?_⟩
      · rw [PySem.seqIndex_of (by decide) (by simp <;> omega)]
        rfl
      · have sB : StA S (upd (upd H' p (.lst [])) S.l (.lst (r.map V.int))) r 0 t := ⟨by rw [upd_ne gc3]; exact sA'.ea, upd_same⟩
        refine ⟨.ref S.a, es, S.a, _, rfl, sB.putL, rfl, ((d.new hp).setL).setA, ⟨upd_same, ?_⟩⟩
        rw [upd_ne gc3.symm]
        exact upd_same
  · have ef : PyData.eqv (.int m) (.int 0) = false := by
      show (m == 0) = false
      simpa using hm1
    refine ⟨.ref S.a, es, S.a, .int m, rfl, sA.getL, .int m, .int 0, .int m, .int 0, rfl, rfl, _, rfl, ?_⟩
    rw [ef]
    exact iteF (fin d sA hm0 hl hz)
end
end DL

/-! an error that is caught, kept and handed back; a lambda handed to such a def -/
namespace DL
open L2 PySem PySem.Spec PyProof.Rows
open Evl (Ex ex_l ex_t sz_of)
section
variable {X : Cx} {pins : List (Addr × Obj)} {σ : L2.St} {H : Hp} {s : Shared}
theorem exT_ok {P : Program} {w : PySem.World} {H : Hp} {h : Heap} {a C : Addr} {d : Option Addr} {oe : Obj} {vs : Array Value} (e : h.get? a = some oe) (z : Zc (.ref C) d oe) (hd : oe.data = .fields vs) : ObjOk P w H h a (ExT C d a) :=
  ⟨⟨oe, vs, e, z, hd⟩, ⟨oe, e⟩, fun _ _ ⟨o, v, q, r⟩ k => ⟨o, v, k o q, r⟩⟩
/-- an object that the entry did not know is tracked from now on -/
theorem adopt {a C : Addr} {d : Option Addr} {oe : Obj} {vs : Array Value} (I : Inv X pins σ H s) (e : s.heap.get? a = some oe) (z : Zc (.ref C) d oe) (hd : oe.data = .fields vs) (na : H a = none) (nL : a ≠ X.env.locals)
    (n0 : X.s_0.heap.get? a = none) (np : ∀ p ∈ X.pn ++ pins, p.1 ≠ a) : Inv X pins σ (upd H a (ExT C d a)) s := by
  have old : ∀ b o, X.s_0.heap.get? b = some o → b ≠ a := fun b o q r => by
    rw [r, n0] at q
    cases q
  have tr : ∀ b o, H b = some o → b ≠ a := fun b o q => ne_of_none q na
  have cel : ∀ x c, X.env.cells.lookup x = some c → c ≠ a := fun x c q r => by
    obtain ⟨v, o, h1, h2⟩ := I.cell x c q
    rw [r, e] at h1
    cases h1
    rw [hd] at h2
    cases h2
  refine ⟨I.ok, I.os, I.bare, ⟨I.base.keep, I.base.slot, ?_, I.base.there, ?_, ?_, ?_⟩, I.loc, I.cell, ?_, ?_, ?_, ?_, I.len⟩
  · intro b o q1 q2 q3
    rw [upd_ne (old b o q1)]
    exact I.base.free b o q1 q2 q3
  · intro b xs q
    have r := I.base.tups b xs q
    rw [upd_ne (tr b _ r)]
    exact r
  · intro b o u q
    have r := I.base.frzs b o u q
    rw [upd_ne (tr b _ r)]
    exact r
  · intro b ps q
    obtain ⟨m, r⟩ := I.base.tbls b ps q
    exact ⟨m, by rw [upd_ne (tr b _ r)]; exact r⟩
  · rw [upd_ne nL.symm]
    exact I.free
  · intro x c q
    rw [upd_ne (cel x c q)]
    exact I.freeC x c q
  · intro p hp
    obtain ⟨h1, h2, h3⟩ := I.pin p hp
    exact ⟨h1, by rw [upd_ne (np p hp)]; exact h2, h3⟩
  · intro b u q
    by_cases hb : b = a
    · rw [hb, upd_same] at q
      cases q
      rw [hb]
      exact exT_ok e z hd
    · rw [upd_ne hb] at q
      refine (I.hok b u q).stay (fun _ _ _ r => r) (fun c r => ?_) fun c xs r => ?_
      · rw [upd_ne (tr c _ r)]
        exact r
      · rw [upd_ne (tr c _ r)]
        exact r
end
/-- what try: .. except x as n: y = n wishes of an error: n in slot i, y in slot j -/
def wKeep (K : PySem.W.Frag) (c : Value) (i j m : Nat) (D : Ends) : WX := fun cls d σ H => ∃ b, PySem.W.exmOne K cls c = some b ∧
  (b = true → ∀ a C, cls = .ref C → H a = none → σ.length = m → ∃ C', cls = .ref C' ∧ D.nx (((σ.set i (some (.ref a))).set j (some (.ref a))).set i none) (upd H a (ExT C' d a))) ∧ (b = false → False) ∧ ∃ C, cls = .ref C
section
variable {X : Cx} {x n y : Str} {c : Value} {i j : Nat} {body : List Stmt} {np p1 p2 p3 pos pos' : Pos} {tb : WX → TS}
theorem ps_try_keep (hs : X.stack = X.env :: X.outer) (hf : X.env.frame = some X.env.locals) (hN : X.N.Nodup) (hi : X.N[i]? = some n) (hln : X.env.kindOf n = some .local) (hj : X.N[j]? = some y) (hly : X.env.scope.names.lookup y = some .local) (hc : Names X x c) (hex : X.ex = []) (hd1 : (n == ("__debug__" : Str)) = false) (hd2 : (n == ("__classdict__" : Str)) = false)
    (hb : ∀ (W : WX) (pn : List (Addr × Obj)) (xe : Value → Shared → Prop), Takes (X.tr pn xe) W → PassesOwn (model X.prog X.w) X.A X.env xe → PSs (X.tr pn xe) body (tb W)) :
    PS X (.Try body [.ExceptHandler (some (.Name x np)) (some n) [.Assign [.Name y p1] (.Name n p2) p3] pos'] [] [] pos) (fun D σ H => tb (wKeep X.K c i j X.N.length D) D σ H) := by
  refine ⟨fun pins s σ H D I h => wpAny_Try_except ?_⟩
  have ok := I.ok
  have hfr : X.A.frames = some (X.env :: X.outer) := ok.frames.trans (congrArg some hs)
  have run := (hb (wKeep X.K c i j X.N.length D) (X.pn ++ pins) (fun e s1 => wpAny (model X.prog X.w) X.A (noteFrame e X.env) (fun _ s2 => wpAny (model X.prog X.w) X.A (setFlight e none) (fun _ s3 =>
    wpAny (model X.prog X.w) X.A (handleBy e X.env [.ExceptHandler (some (.Name x np)) (some n) [.Assign [.Name y p1] (.Name n p2) p3] pos']) (SP X pins D) X.xe s3) X.xe s2) X.xe s1) ?_ PassesOwn.looking).run [] s σ H D (I.toTry _) h
  · refine wpAny_mono run (fun f s1 hsp => ?_) fun _ _ he => he
    -- the body came to its end
    cases f with
    | next =>
      obtain ⟨σ', H', J, q⟩ := hsp
      exact wpAny_execs_nil ⟨σ', H', J.ofTry ok, q⟩
    | brk =>
      obtain ⟨σ', H', J, q⟩ := hsp
      exact ⟨σ', H', J.ofTry ok, q⟩
    | cont =>
      obtain ⟨σ', H', J, q⟩ := hsp
      exact ⟨σ', H', J.ofTry ok, q⟩
    | ret u =>
      obtain ⟨v, σ', H', J, r, q⟩ := hsp
      exact ⟨v, σ', H', J.ofTry ok, r, q⟩
  · -- an error comes
    rintro u s' ⟨a, B, sI, pins', σ', H', cls, d, rfl, J', nb, up, sky, na, os, ag, b, hb1, hyes, hno, C, rfl⟩
    have J : Inv X pins σ' H' sI := J'.ofTry ok
    have hB : B.get? a = none := by
      rcases sky with ⟨_, z, _⟩ | ⟨_, z, _⟩ | ⟨_, z, _⟩ <;> exact z
    have sky' : Sky B (X.env :: X.outer) a (Zc (.ref C) d) X.env.locals s'.heap := hs ▸ sky
    refine Sky.land (env := X.env) Zc.steady hfr hf sky' fun h3 fl3 up3 => ?_
    have J3 : Inv X pins σ' H' { s' with heap := h3 } := J.landed nb fl3.1 (up.trans up3) os ag
    obtain ⟨oe3, vs3, he3, hz3, hd3⟩ := fl3.there
    have nfr : a ∉ frs (X.env :: X.outer) := fun hm => by
      obtain ⟨_, o, e1, e2⟩ := fl3.2.2.1.mem hm
      rw [he3] at e1
      cases e1
      exact e2 _ hd3
    have nL : a ≠ X.env.locals := fun z => nfr (List.mem_filterMap.mpr ⟨X.env, List.mem_cons_self, by rw [hf, z]⟩)
    have nF : a ∉ X.fs := fun hm => by
      obtain ⟨e, he, q⟩ := List.mem_filterMap.mp hm
      exact nfr (List.mem_filterMap.mpr ⟨e, List.mem_cons_of_mem _ he, q⟩)
    -- what stood at the entry is another object
    have inB : ∀ b o, sI.heap.get? b = some o → b ≠ X.env.locals → b ∉ X.fs → b ≠ a := fun b o e1 e2 e3 z => by
      have q := nb b o e1 fun hm => (List.mem_cons.mp (J.stkSub b hm)).elim e2 e3
      rw [z, hB] at q
      cases q
    have n0 : X.s_0.heap.get? a = none := by
      cases q : X.s_0.heap.get? a with
      | none => rfl
      | some o =>
        obtain ⟨o', q'⟩ := J.base.there a o q (by rw [hex]; exact fun z => nomatch z)
        exact absurd rfl (inB a o' q' nL nF)
    have npn : ∀ p ∈ X.pn ++ pins, p.1 ≠ a := fun p hp => by
      obtain ⟨h1, _, h3, h4, _⟩ := J.pin p hp
      exact inB p.1 p.2 h1 h3 h4
    refine wpAny_handleBy_cons (codeAny_handlers_test ?_) (by intro q; cases q)
    have S3 := J3.suite he3 hd3 na nL nF
    have LM := PySem.W.exm_one (M := model X.prog X.w) J3.kIn (fun A Q E s k q => wpAny_typeOf_ref (k _ _ he3) (by rw [hz3.1]; exact q)) hb1
    have goes : wpAny (model X.prog X.w) (X.A.mark (some (.ref a))) (eval (.Name x np) X.env) (fun v s1 => v = c ∧ s1 = { s' with heap := h3 }) (fun _ _ => False) { s' with heap := h3 } := by
      obtain ⟨hg, hdbg, hm | ⟨hm, hv, hnn⟩⟩ := hc
      · exact ld_glob (X := X.suite a ((a, oe3) :: (X.pn ++ pins))) S3 hg hm ⟨rfl, rfl⟩ hdbg
      · exact ld_blt (X := X.suite a ((a, oe3) :: (X.pn ++ pins))) S3 hg hm hv ⟨rfl, rfl⟩ hnn hdbg
    refine wpAny_mono goes (fun v s1 hv => ?_) fun _ _ z => False.elim z
    obtain ⟨e1, e2⟩ := hv
    subst e1
    subst e2
    refine LM.here ?_
    cases b with
    | false => exact (hno rfl).elim
    | true =>
      refine codeAny_handlers_suite_as ?_
      refine HandSPX.lands_againZ fl3 fun h4 fl4 up4 => ?_
      have J4 : Inv X pins σ' H' { s' with heap := h4 } := J.landed nb fl4.1 ((up.trans up3).trans up4) os ag
      obtain ⟨oe4, vs4, he4, hz4, hd4⟩ := fl4.there
      have S4 := J4.suite he4 hd4 na nL nF
      refine store_ok (X := X.suite a ((a, oe4) :: (X.pn ++ pins))) (v := .ref a) S4 hN hi (.inl hln) rfl (fun s5 S5 => ?_) (.inr hln)
      have il : i < σ'.length := by
        rw [J.len]
        exact (List.getElem?_eq_some_iff.mp hi).1
      have asg : PSs (X.suite a ((a, oe4) :: (X.pn ++ pins))) [.Assign [.Name y p1] (.Name n p2) p3] (tAsg (tVar i) (gName j)) :=
        pss_one (ps_set (X := X.suite a ((a, oe4) :: (X.pn ++ pins))) (i := j) hN hj (.inl hly) (pe_var (X := X.suite a ((a, oe4) :: (X.pn ++ pins))) (i := i) hi (.inl hln) hd1 hd2) (hf := .inr hly))
      refine wpAny_mono (asg.run [] s5 _ H' { nx := fun σ6 H6 => σ6 = (σ'.set i (some (.ref a))).set j (some (.ref a)) ∧ H6 = H', rt := fun _ _ => False } S5 ⟨.ref a, List.getElem?_set_self il, rfl, rfl⟩) (fun f s6 hsp => ?_) (fun _ _ z => False.elim z)
      cases f with
      | next =>
        obtain ⟨σ6, H6, S6, rfl, rfl⟩ := hsp
        refine gone_ok (X := X.suite a ((a, oe4) :: (X.pn ++ pins))) S6 hN hi hln fun s7 S7 => ?_
        obtain ⟨e7, _⟩ := S7.pin (a, oe4) (List.mem_append_left _ List.mem_cons_self)
        obtain ⟨C', eC, q⟩ := hyes rfl a C rfl na J.len
        cases eC
        exact ⟨_, _, adopt (S7.unsuite ok) e7 hz4 hd4 na nL n0 npn, q⟩
      | brk =>
        obtain ⟨_, _, _, q⟩ := hsp
        exact False.elim q
      | cont =>
        obtain ⟨_, _, _, q⟩ := hsp
        exact False.elim q
      | ret u =>
        obtain ⟨_, _, _, _, _, q⟩ := hsp
        exact False.elim q
end
end DL

/-! x(lambda: body), x the def that hands back what was caught -/
namespace DL
open L2 PySem PySem.Spec PyProof.Rows
open Evl (Ex ex_l ex_t sz_of)
/-- caught = None; try: work() except S as error: caught = error; return caught -/
def TTc (K : PySem.W.Frag) (CS : Addr) : (XK → Hp → VK → Prop) → Hp → VK → Prop := fun tl H Q =>
  tl (fun cls od H' => ∃ C, cls = .ref C ∧ PySem.W.exmOne K cls (.ref CS) = some true ∧ ∀ a, H' a = none → Q (.ref a) (upd H' a (ExT C od a))) H (fun _ H' => ∃ v, (some (some V.non) : Option (Option V)) = some (some v) ∧ Q v H')
def sCaught : Str := "caught"
def sError : Str := "error"
section
variable {X : Cx}
theorem caught_gives {x e q : Str} {sg : Scope} {g CS : Addr} {cdg : Value} {j1 : Nat} {p0 p1 p2 p3 p4 p5 p6 p7 p8 p9 pa pb pc pd : Pos} (hge : sg.names.lookup e = some .globalImplicit) (hme : X.mg e = some (.ref CS)) (hde : (e == ("__debug__" : Str)) = false)
    (h1 : sg.names.lookup sCaught = some .local) (h2 : sg.names.lookup sError = some .local) :
    LamX.GivesTo X ["work", "caught", "error"] x sg g cdg [.Assign [.Name "caught" p0] (.Constant .none j1 p1) p2,
      .Try [.Expr (.Call (.Name "work" p3) [] [] p4) p5] [.ExceptHandler (some (.Name e p6)) (some "error") [.Assign [.Name "caught" p7] (.Name "error" p8) p9] pa] [] [] pb, .Return (some (.Name "caught" pc)) pd] "work" q (TTc X.K CS) := by
  intro f c' s H Q tl act hc h
  have hgl : Gl (cxOf C8.CX0 X.prog X.w X.K X.mg X.base ["work", "caught", "error"] x sg g cdg X.A X.stack s H C8.E0).nox e := hge
  have nd : (["work", "caught", "error"] : List Str).Nodup := by decide +kernel
  refine ⟨_, pss_cons (ps_set (X := (cxOf C8.CX0 X.prog X.w X.K X.mg X.base ["work", "caught", "error"] x sg g cdg X.A X.stack s H C8.E0).nox) (i := 1) nd rfl (.inl h1) pe_non (hf := .inr h1))
    (pss_cons (ps_try_keep (X := (cxOf C8.CX0 X.prog X.w X.K X.mg X.base ["work", "caught", "error"] x sg g cdg X.A X.stack s H C8.E0).nox) (i := 2) (j := 1) (c := .ref CS)
      (tb := fun W D σ H => ∃ Ech : XK, (∀ cls d σ' H', Ech cls d H' → W cls d σ' H') ∧ σ[0]? = some (some (.ref f)) ∧ H c' = some (LamX.CodeO c' q) ∧ tl Ech H (fun _ H' => D.nx σ H'))
      rfl rfl nd rfl h2 rfl h1 ⟨hgl, hde, .inl hme⟩ rfl (by decide) (by decide) (fun W pn xe tk _ => ?_))
    (pss_one (ps_ret (pe_var (X := (cxOf C8.CX0 X.prog X.w X.K X.mg X.base ["work", "caught", "error"] x sg g cdg X.A X.stack s H C8.E0).nox) (i := 1) rfl (.inl h1))))), ?_⟩
  · refine ⟨fun pins s' σ H' D I h' => ?_⟩
    obtain ⟨Ech, hW, g1, g2, g3⟩ := h'
    exact (pss_one (ps_expr (act W pn xe Ech _ _ tk hW))).run pins s' σ H' D I ⟨g1, g2, g3⟩
  · refine ⟨fun cls od H' => ∃ C, cls = .ref C ∧ PySem.W.exmOne X.K cls (.ref CS) = some true ∧ ∀ a, H' a = none → Q (.ref a) (upd H' a (ExT C od a)), fun cls od σ' H' hx => ?_, rfl, hc, h⟩
    obtain ⟨C, rfl, em, hq⟩ := hx
    refine ⟨true, em, fun _ a C2 e2 na hl => ⟨C, rfl, ?_⟩, (fun z => nomatch z), C, rfl⟩
    refine ⟨.ref a, ?_, hq a na⟩
    have l3 : σ'.length = 3 := hl
    rw [List.getElem?_set_ne (by decide), List.getElem?_set_self (by rw [List.length_set, l3]; decide)]
end
/-- what is known of the class of an error that the program may raise -/
structure ErrC (K : PySem.W.Frag) (CS C : Addr) : Prop where
  ec : ExcC K C
  nt : NoTy K C
  em : PySem.W.exmOne K (.ref C) (.ref CS) = some true
section
variable {K : PySem.W.Frag} {T : Tb} {S : SA} {E : XK}
def xLam (K : PySem.W.Frag) (CS : Addr) (F : DT) : DT := fun ρ n P _ => F ρ n (fun _ n1 => P .non n1) (fun C ns ds n1 => ErrC K CS C ∧ P (.exc C ns ds) n1)
/-- all but the tables stays: a step of ours -/
theorem Stp.lam {Hb H H1 : Hp} {n : Nat} (w : World T S Hb H) (e : LamX.ExtN H H1) (t : LamX.Tabs T H1) : Stp K T S Hb H n Hb H1 n := by
  have k : ∀ b o, H b = some o → (∀ ps, o ≠ .tbl ps) → H1 b = some o := e
  have kO : ∀ {b : Addr}, Obn H b → Obn H1 b := fun ⟨o, h, ho⟩ => ⟨o, k _ _ h ho, ho⟩
  refine ⟨Ex.refl _, ⟨fun b o q => k b o (w.ex b o q) (fun ps z => by subst z; exact w.nt b ps q), t, w.tb, kO w.sa, kO w.sl, kO w.sc, w.nt⟩, fun h0 => ?_, fun b o e1 e2 _ _ e5 => ⟨k b o e1 e5, .inl e2⟩, fun b f o h => ?_⟩
  · obtain ⟨g1, g2, ls, cs, m, t, g3, g4, g5, g6, g7, g8, rest⟩ := h0
    exact ⟨g1, g2, ls, cs, m, t, g3, g4, g5, k _ _ g6 (fun _ z => by cases z), k _ _ g7 (fun _ z => by cases z), g8, rest⟩
  · by_cases ht : ∃ ps, o = .tbl ps
    · exact ht
    · exact f o (k b o h fun ps z => ht ⟨ps, z⟩)
theorem rd_lam {CS : Addr} {te : XK → TE} {F : DT} (h : ∀ E, DL.Rd K T S E (te E) F) : DL.Rd K T S E (LamX.tLam T (TTc K CS) te) (xLam K CS F) := fun σ ρ Hb H n P XP Q w sl hf q x => by
  refine ⟨w.tabs, fun H1 eN T1 => ?_⟩
  have s : Stp K T S Hb H n Hb H1 n := .lam w eN T1
  refine h _ σ ρ Hb H1 n _ _ _ s.wd (sl.step s) hf (fun d v n2 Hb2 H2 s2 hv p => ⟨.non, rfl, q .non _ n2 Hb2 H2 (s.trans s2) .non p⟩) fun C ns ds n2 od Hb2 H2 s2 hx p => ?_
  obtain ⟨ec, p⟩ := p
  refine ⟨C, rfl, ec.em, fun a na => (q.step (s.trans s2)).new s2.wd na ?_ p⟩
  obtain ⟨fs, h0, h1, h2⟩ := hx
  have eb := Ex.new (o := ExT C od a) (free_of s2.wd.ex na)
  refine .exc ec.ec ec.nt upd_same ?_ h1 (h2.up eb)
  rcases h0 with h0 | ⟨dd, h0, hne, h3⟩
  · exact .inl h0
  · exact .inr ⟨dd, h0, hne, eb _ _ h3⟩
end
end DL

/-! promises that ask for a frame in which nothing is being shown -/
namespace DL
open L2 PySem PySem.Spec PyProof.Rows
open Evl (Ex ex_l ex_t sz_of)
/-- what a def promises where no repr is under way -/
structure FnG (P : Program) (w : PySem.World) (K : PySem.W.Frag) (mg : Str → Option Value) (base : Heap) (CX : CXT) (k : Nat) (f : Addr) (fd : FuncData) (ps : List Str) (sp : Sp) : Prop where
  many : ∀ vs H Q E, sp vs H Q E → vs.length = ps.length
  goes : ∀ (A : Around), A.guards = some [] → Room k A → ∀ (out : List Env) (s : Shared) (H : Hp) (args : PySem.Args) (us : List Value) (vs : List V) (Q : VK) (E : XK), sp vs H Q E → Vals vs us → BindsTo s fd args (ps.zip us) → Env0 P w K mg base A out s H →
    codeAny (model P w) A (.call (.ref f) args) (CR CX out P w H s Q E) s
section
variable {P : Program} {w : PySem.World} {K : PySem.W.Frag} {mg : Str → Option Value} {base : Heap} {CX : CXT} {j k : Nat} {f : Addr} {fd : FuncData} {ps : List Str} {sp : Sp}
theorem FnG.of (F : FnOk P w K mg base CX k f fd ps sp) : FnG P w K mg base CX k f fd ps sp :=
  ⟨F.len, fun A _ hr out s H args us vs Q E h r b e => F.run A out s H args us vs Q E hr e b r h⟩
theorem FnG.mono (F : FnG P w K mg base CX j f fd ps sp) (h : j ≤ k) : FnG P w K mg base CX k f fd ps sp :=
  ⟨F.many, fun A g hr => F.goes A g (hr.mono h)⟩
/-- from the body's reading in a frame that shows nothing -/
theorem fnG_of {x qual : Str} {st : Stmt} {N : List Str} (F : Fun K x qual st f fd) (Sc : FnScope N ps (defScope st)) (len : ∀ vs H Q E, sp vs H Q E → vs.length = ps.length)
    (hb : ∀ (cdv : Value) (A : Around) (out : List Env) (s : Shared) (H : Hp) (vs : List V) (Q : VK) (E : XK), A.guards = some [] → Room k (A.deeper (envOfC qual (defScope st) s.heap.objs.size f cdv)) → sp vs H Q E →
      ∃ t, PSs (cxOf CX P w K mg base N qual (defScope st) f cdv A out s H E) (defBody st) t ∧ t { nx := fun _ H' => Q .non H', rt := Q } (start N vs) H) : FnG P w K mg base CX (k + 1) f fd ps sp := by
  obtain ⟨oc, od, kV, doc, pm, an, cdv, ct, osl, rfl, lk, hcd⟩ := F.ex
  exact ⟨len, fun A g hr out s H args us vs Q E h r b e => LamX.run_ofS lk hcd Sc hr e b r (len _ _ _ _ h) fun hr2 => hb cdv A out s H vs Q E g hr2 h⟩
end
section
variable {X : Cx} {CX : CXT} {k : Nat} {f : Addr} {fd : FuncData} {ps : List Str} {ds : List Value} {dvs : List V} {sp : Sp} {E : XK} {x : Str} {p pos : Pos} {e : Expr} {es : List Expr} {t : TA}
theorem runG {pins : List (Addr × Obj)} {σ : L2.St} {H : Hp} {s : Shared} {Q : VK} {us : List Value} {vs : List V} (F : FnG X.prog X.w X.K X.mg X.base CX k f fd ps sp) (g : X.A.guards = some []) (hr : Room k X.A) (hb : Binds X.K fd ps ds) (hd : Vals dvs ds) (hx : Passes CX X E)
    (I : Inv X pins σ H s) (r : Vals vs us) (h : sp (vs ++ dvs) H Q E) : wpAny (model X.prog X.w) X.A (call (.ref f) us) (EP X pins σ Q) X.xe s := by
  have all := r.append hd
  have hz : (us ++ ds).length = ps.length := all.length ▸ F.many _ _ _ _ h
  have go := F.goes X.A g hr X.stack s H ⟨us, []⟩ (us ++ ds) (vs ++ dvs) Q E h all (hb s us I.kIn hz) I.env0
  refine wpAny_call (codeAny_mono go ?_)
  rintro (e | fl) s2 hq
  · exact hx pins σ H s e s2 I hq
  · cases fl with
    | ret u => exact I.after hq
    | _ => exact False.elim hq
theorem pe_callG (F : FnG X.prog X.w X.K X.mg X.base CX k f fd ps sp) (g : X.A.guards = some []) (hr : Room k X.A) (hg : Gl X x) (hm : X.mg x = some (.ref f)) (hk : PySem.W.keepIn X.K (.ref f) = true) (hb : Binds X.K fd ps ds) (hd : Vals dvs ds) (hx : Passes CX X E)
    (ha : PA X (e :: es) t) (hdb : (x == ("__debug__" : Str)) = false := by decide) (he : starEach (e :: es) X.env = (false, eval e X.env) :: starEach es X.env := by rfl) (hpl : (backTo pos (starEach es X.env)).any (·.1) = false := by rfl) :
    PE X (.Call (.Name x p) (e :: es) [] pos) (tCall sp dvs E t) :=
  ⟨fun pins s σ H Q I h => wpAny_Call_Name_kw (ld_glob I hg hm (PySem.W.callWith_K (h₀ := X.base) I.ok.mod.kin hk (thn (ha.run pos pins s σ H _ I h) fun us s1 q => by
    obtain ⟨vs, H1, I1, r, q⟩ := q
    exact ⟨I1.kIn, runG F g hr hb hd hx I1 r q⟩) he hpl) hdb)⟩
end
section
variable {P : Program} {w : PySem.World} {K : PySem.W.Frag} {T : Tb} {mg : Str → Option Value} {base : Heap}
theorem fnG_okD {x qual : Str} {st : Stmt} {f : Addr} {fd : FuncData} {N ps : List Str} {k : Nat} {DS : DSp0} (F : Fun K x qual st f fd) (Sc : FnScope N ps (defScope st)) (len : ∀ ss n P, DS ss n P → ss.length = ps.length)
    (hb : ∀ (S : SA) (cdv : Value) (A : Around) (outer : List Env) (s : Shared) (H : Hp) (E : XK), A.guards = some [] → Room k (A.deeper (envOfC qual (defScope st) s.heap.objs.size f cdv)) →
      ∃ ts G, PSs (cxOf CX0 P w K mg base N qual (defScope st) f cdv A outer s H E).nox (defBody st) ts ∧ RdS K T S E0 ts G ∧ ∀ ss n P, DS ss n P → G { nx := fun _ n => P .non n, rt := P } (startS N ss) n xF) :
    FnG P w K mg base CX0 (k + 1) f fd ps (sp0 K T DS) := by
  refine fnG_of F Sc (fun vs H Q E h => ?_) (fun cdv A outer s H vs Q E g hr h => ?_)
  · obtain ⟨S, Hb, n, ss, P, XP, _, ha, ⟨_, hd⟩, _⟩ := h
    rw [← ha.len]
    exact len ss n P hd
  · obtain ⟨S, Hb, n, ss, P, XP, wd, ha, ⟨ho, hd⟩, q, _⟩ := h
    obtain ⟨ts, G, h1, h2, h3⟩ := hb S cdv A outer s H E g hr
    exact ⟨ts, h1.nox, h2 _ _ Hb H n Hb H n _ xF _ (.refl wd) ⟨.start ha (noL_of ho), start_fr ho⟩ (h3 ss n P hd) ⟨fun ρ σ n' Hb' H' _ st _ p => q _ _ _ _ _ st .non p, q, fun _ _ _ _ _ _ _ _ p => p.elim, fun _ _ _ _ _ _ _ _ p => p.elim⟩ .none⟩
end
end DL

/-! the end of a law that shows what it saw -/
namespace DL
open L2 PySem PySem.Spec PyProof.Rows LamX
/-- what the walk knows at the entry: empty tables ts, the script at a where the frame has it not -/
def begH (K : PySem.W.Frag) (ts : List Addr) (a : Addr) (ob : Obj) (u : HO) : Hp := fun b => if b ∈ ts then some (.tbl #[]) else if b = a ∧ K.lookup a = none then some (.frz ob u) else none
section
variable {K : PySem.W.Frag} {ts : List Addr} {a b : Addr} {ob : Obj} {u : HO}
theorem begH_t (h : b ∈ ts) : begH K ts a ob u b = some (.tbl #[]) := if_pos h
theorem begH_a (h : a ∉ ts) (k : K.lookup a = none) : begH K ts a ob u a = some (.frz ob u) := by
  unfold begH
  rw [if_neg h, if_pos ⟨rfl, k⟩]
theorem begH_inv {o : HO} (h : begH K ts a ob u b = some o) : (b ∈ ts ∧ o = .tbl #[]) ∨ (b ∉ ts ∧ b = a ∧ K.lookup a = none ∧ o = .frz ob u) := by
  unfold begH at h
  split at h
  · rename_i m
    exact .inl ⟨m, (Option.some.inj h).symm⟩
  · rename_i m
    split at h
    · rename_i q
      exact .inr ⟨m, q.1, q.2, (Option.some.inj h).symm⟩
    · cases h
theorem begH_n (h1 : b ∉ ts) (h2 : b = a → K.lookup a = none → False) : begH K ts a ob u b = none := by
  cases h : begH K ts a ob u b with
  | none => rfl
  | some o =>
    rcases begH_inv h with ⟨m, _⟩ | ⟨_, e, k, _⟩
    · exact (h1 m).elim
    · exact (h2 e k).elim
end
section
variable {P : Program} {w : PySem.World} {K : PySem.W.Frag} {mg mb : Str → Option Value} {CX : CXT} {k : Nat} {fa a : Addr} {cs : List (Addr × Addr)} {fd : FuncData} {x : Str} {sp : Sp} {s : Shared} {vs : List Value} {ns : List Int}
theorem end_call (KX : K.In s.heap) (gl : s.heap.Ns mainGlobals mg) (bl : s.heap.Ns builtinsNs mb) (bb : ∀ x : Str, x ≠ "__name__" → mb x = bootBuiltins x) (nl : s.heap.NoLimit) (ng : s.gens = #[])
    (hT : ∀ p ∈ cs, s.heap.get? p.2 = some { cls := .none, data := .fields #[] }) (nT : ∀ p ∈ cs, K.lookup p.2 = none) (hC : ∀ p ∈ cs, PySem.W.CodeHd s.heap p.1 p.2)
    (bm : ∃ (m : Addr) (o : Obj), mg "__builtins__" = some (.ref m) ∧ m ≠ builtinsNs ∧ s.heap.get? m = some o ∧ o.cls = .type "module" ∧ o.dict = some builtinsNs ∧ o.data = .plain)
    (ha : s.heap.get? a = some { cls := .type "list", data := .seq vs.toArray }) (hi : IntsAre vs ns) (hl : ns.length ≤ sizeLine) (hr : Room k callerA)
    (F : ∀ base : Heap, K.In base → base.Ns mainGlobals mg → (∀ p ∈ cs, TabB base mg p.1 p.2) → FnG P w K mg base CX k fa fd [x] sp) (hbind : ∀ (s : Shared) (u : Value), BindsTo s fd ⟨[u], []⟩ [(x, u)])
    (hsp : ∀ H : Hp, (∀ p ∈ cs, H p.2 = some (.tbl #[])) → SqL K H a (ns.map V.int) → sp [.ref a] H (fun v _ => v = .bl true) fun _ _ _ => False)
    (hX : ∀ H e s', CX [] H s (fun _ _ _ => False) e s' → False) :
    codeAny (model P w) callerA (.call (.ref fa) ⟨[.ref a], []⟩) (fun r s' => r = .ok (.ret (.bool true)) ∧ OldK s.heap s'.heap ∧ s'.os = s.os ∧ AllBare s'.gens) s := by
  have hv := vals_ints hi
  have hn : vs.length = ns.length := hi.length
  have seen : ∀ b ∈ cs.map (·.2), s.heap.get? b = some { cls := .none, data := .fields #[] } ∧ K.lookup b = none := fun b m => by
    obtain ⟨p, hp, rfl⟩ := List.mem_map.mp m
    exact ⟨hT p hp, nT p hp⟩
  have na : a ∉ cs.map (·.2) := fun m => by
    have z := (seen a m).1
    rw [ha] at z
    injection z with z
    injection z with _ _ z
    cases z
  have here : ∀ p ∈ cs, p.2 ∈ cs.map (·.2) := fun p hp => List.mem_map.mpr ⟨p, hp, rfl⟩
  let H : Hp := begH K (cs.map (·.2)) a { cls := .type "list", data := .seq vs.toArray } (.lst (ns.map V.int))
  have HT : ∀ p ∈ cs, H p.2 = some (.tbl #[]) := fun p hp => begH_t (here p hp)
  have HS : SqL K H a (ns.map V.int) := by
    cases q : K.lookup a with
    | none => exact .inl (.inr ⟨_, begH_a na q⟩)
    | some o =>
      have z := KX a o q
      rw [ha] at z
      cases z
      exact .inr ⟨_, vs.toArray, _, q, rfl, rfl, rfl, by simpa [hn] using hl, by simpa using hv⟩
  have HO : HOk P w H s.heap := fun b o h => by
    rcases begH_inv h with ⟨m, rfl⟩ | ⟨_, rfl, _, rfl⟩
    · exact (seen b m).1
    · exact ⟨ha, by simpa using hl, vs, _, hv, ha⟩
  -- an object of another form is not tracked
  have apart : ∀ {b : Addr} {o : Obj}, s.heap.get? b = some o → o.data ≠ .seq vs.toArray → o.data ≠ .fields #[] → H b = none := fun {b o} e h1 h2 => begH_n (fun m => by
    have z := (seen b m).1
    rw [e] at z
    cases z
    exact h2 rfl) fun r _ => by
      subst r
      rw [ha] at e
      cases e
      exact h1 rfl
  have space : ∀ {b : Addr} {m : Str → Option Value}, s.heap.Ns b m → (hidT s.heap H).Ns b m := fun {b m} ⟨o, es, ep, e, d, r⟩ => ⟨o, es, ep, hidT_get e (apart e (by rw [d]; exact fun z => by cases z) (by rw [d]; exact fun z => by cases z)), d, r⟩
  have kin : K.In (hidT s.heap H) := fun b o e => hidT_get (KX b o e) (begH_n (fun m => by rw [(seen b m).2] at e; cases e) fun r q => by rw [r, q] at e; cases e)
  have md : L2.Mod K mg (hidT s.heap H) := ⟨kin, space gl, ⟨mb, space bl, bb⟩, nl.imp fun c h => ⟨space h.1, h.2⟩⟩
  have glD : ∃ o es ep, s.heap.get? mainGlobals = some o ∧ o.data = .dict es ep := by
    obtain ⟨o, es, ep, e, d, _⟩ := gl
    exact ⟨o, es, ep, e, d⟩
  have tb : ∀ p ∈ cs, TabB (hidT s.heap H) mg p.1 p.2 := fun p hp => by
    obtain ⟨og, es, ep, eg, dg⟩ := glD
    refine ⟨?_, ?_, fun z => by rw [z, hT p hp] at eg; cases eg; cases dg⟩
    · obtain ⟨o, us, f, tf, fl, tg, iF, tx, tt, e, c1, c2, c3, rest⟩ := hC p hp
      refine ⟨o, us, f, tf, fl, tg, iF, tx, tt, hidT_get e (apart e (by rw [c2]; exact fun z => by cases z) ?_), c1, c2, c3, rest⟩
      rw [c2]
      intro z
      cases z
      simp at c3
    · obtain ⟨m, o, b1, b2, b3, b4, b5, b6⟩ := bm
      refine ⟨m, o, b1, b2, fun z => ?_, fun z => ?_, hidT_get b3 (apart b3 (by rw [b6]; exact fun z => by cases z) (by rw [b6]; exact fun z => by cases z)), b4, b5, b6⟩
      · rw [z, eg] at b3
        cases b3
        rw [dg] at b6
        cases b6
      · rw [z, hT p hp] at b3
        cases b3
        cases b6
  have e0 : Env0 P w K mg (hidT s.heap H) callerA [] s H := {
    frames := rfl
    mod := md
    bs := fun b o e => of_hidT e
    bsz := Nat.le_of_eq (hidT_size _ _)
    funs := trivial
    frf := fun b m => absurd m (by show b ∉ ([] : List Addr); simp)
    hok := HO
    bare := .of_eq ng }
  refine codeAny_mono ((F _ kin (space gl) tb).goes callerA rfl hr [] s H ⟨[.ref a], []⟩ [.ref a] [.ref a] _ _ (hsp H HT HS) (.cons rfl .nil) (hbind s (.ref a)) e0) ?_
  rintro (e | fl) s2 h
  · exact (hX H e s2 h).elim
  · cases fl with
    | ret u =>
      obtain ⟨v, H2, os, bare, un, ok2, rv, rfl⟩ := h
      have eu : u = Value.bool true := rv
      subst eu
      have rest : ∀ b o, b ∉ cs.map (·.2) → s.heap.get? b = some o → s2.heap.get? b = some o := fun b o m e => by
        cases q : H b with
        | none => exact un.keep b o e q (by show b ∉ ([] : List Addr); simp) (by simp)
        | some y =>
          rcases begH_inv q with ⟨m2, _⟩ | ⟨_, rfl, _, rfl⟩
          · exact (m m2).elim
          · rw [ha] at e
            cases e
            exact (ok2 _ _ (un.frzs _ _ _ q)).1
      have tabs : ∀ p ∈ cs, ∃ more : Array Value, s2.heap.get? p.2 = some { cls := .none, data := .fields (#[] ++ more) } := fun p hp => (un.tbls p.2 #[] (HT p hp)).imp fun more z => ok2 p.2 (.tbl (#[] ++ more)) z
      refine ⟨rfl, ⟨fun b o e => ?_, fun b o e => ?_⟩, os, bare⟩ <;> by_cases m : b ∈ cs.map (·.2)
      · obtain ⟨p, hp, rfl⟩ := List.mem_map.mp m
        obtain ⟨more, z⟩ := tabs p hp
        rw [hT p hp] at e
        cases e
        exact .inr (.inl ⟨((hC p hp).tab (hT p hp)).isCodeTable, rfl, #[], more, rfl, z⟩)
      · exact .inl (rest b o m e)
      · obtain ⟨p, hp, rfl⟩ := List.mem_map.mp m
        exact (tabs p hp).elim fun _ z => ⟨_, z⟩
      · exact ⟨o, rest b o m e⟩
    | _ => exact False.elim h
/-- what is known of the law's promise at the head's heap h -/
def LawG (l : PySem.W.OpenLaw) (w : PySem.World) (K : PySem.W.Frag) (CX : CXT) (k n : Nat) (x : Str) (mg : Str → Option Value) (fa : Addr) (h : Heap) : Prop :=
  ∃ (cs : List (Addr × Addr)) (fd : FuncData) (sp : Sp), ((∀ p ∈ cs, h.get? p.2 = some { cls := .none, data := .fields #[] }) ∧ (∀ p ∈ cs, PySem.W.CodeHd h p.1 p.2) ∧ ∀ p ∈ cs, K.lookup p.2 = none) ∧
    (∀ base : Heap, K.In base → base.Ns mainGlobals mg → (∀ p ∈ cs, TabB base mg p.1 p.2) → FnG l.prog w K mg base CX k fa fd [x] sp) ∧ (∀ (s : Shared) (u : Value), BindsTo s fd ⟨[u], []⟩ [(x, u)]) ∧
    ∀ (H : Hp) (a : Addr) (ns : List Int), ns.length ≤ n → (∀ z ∈ ns, Builtin.Int.intBits z ≤ 1048576) → (∀ p ∈ cs, H p.2 = some (.tbl #[])) → SqL K H a (ns.map V.int) → sp [.ref a] H (fun v _ => v = .bl true) fun _ _ _ => False
end
end DL

/-! objects that are made: __init__ and its caller -/
namespace DL
open L2 PySem PySem.Spec PyProof.Rows
open Evl (Ex ex_l ex_t sz_of)
def noMe : List SV → Bool
  | [] => true
  | .me _ _ _ _ :: _ => false
  | _ :: ss => noMe ss
theorem noMe_get : ∀ {ρ : List SV} {i : Nat} {x C : Addr} {ns : List Str} {ds : List D}, noMe ρ = true → ρ[i]? ≠ some (.me x C ns ds)
  | [], i, x, C, ns, ds, _ => by simp
  | s :: ss, 0, x, C, ns, ds, h => by
    intro e
    simp at e
    subst e
    exact absurd h (by simp [noMe])
  | s :: ss, i + 1, x, C, ns, ds, h => by
    have h' : noMe ss = true := by cases s <;> first | exact h | (exact absurd h (by simp [noMe]))
    simpa using noMe_get (i := i) h'
def meD (ρ : List SV) (k : Addr → Addr → List Str → List D → List SV → Prop) : Prop := match ρ with
  | .me x C ns ds :: r => k x C ns ds r
  | _ => False
def xsMe (K : PySem.W.Frag) (f : Str) (F : DT) : DTS := fun DD ρ n XP => F ρ n (fun d n1 => meD ρ fun x C ns ds r => noMe r = true ∧ Cls K C ∧ NoAttr K C f ∧ ns.length < 900 ∧ ns.contains f = false ∧ DD.nx (.me x C (ns ++ [f]) (ds ++ [d]) :: r) n1) XP
theorem putF_new {f : Str} {v : V} : ∀ {fs : List (Str × V)}, (fs.map (·.1)).contains f = false → (putF f v fs) = fs ++ [(f, v)]
  | [], _ => rfl
  | (g, y) :: fs, h => by
    have h0 : ((g :: fs.map (·.1)).contains f) = false := h
    rw [List.contains_cons, Bool.or_eq_false_iff] at h0
    have hg : ¬ g = f := fun e => by
      rw [e] at h0
      simp at h0
    show (if g = f then (g, v) :: fs else (g, y) :: putF f v fs) = _
    rw [if_neg hg, putF_new h0.2]
    rfl
section
variable {K : PySem.W.Frag} {T : Tb} {S : SA} {E : XK} {Hb H Hb1 H1 : Hp} {n n1 : Nat} {te : TE} {FE : DT} {ta : TA} {G : DTA}
/-- an object of one's own is rewritten -/
theorem World.put {p : Addr} {o u : HO} (w : World T S Hb H) (h1 : H p = some o) (h2 : Hb p = none) (nt : ∀ ps, o ≠ .tbl ps) (nx : ∀ φ, o ≠ .ext φ) (nu : ∀ ps, u ≠ .tbl ps) : World T S Hb (upd H p u) := by
  refine ⟨fun b y e => by rw [upd_ne (fun z => by rw [z, h2] at e; cases e)]; exact w.ex b y e, fun q hq => ?_, w.tb, w.sa.upd nu, w.sl.upd nu, w.sc.upd nu, w.nt⟩
  obtain ⟨ps, e, t1, t2⟩ := w.tabs q hq
  refine ⟨ps, by rw [upd_ne (fun z => by rw [z, h1] at e; exact nt _ (Option.some.inj e))]; exact e, t1, fun pos cv hcv => ?_⟩
  obtain ⟨c, e1, e2⟩ := t2 pos cv hcv
  exact ⟨c, e1, by rw [upd_ne (fun z => by rw [z, h1] at e2; exact codeO_no nx (Option.some.inj e2))]; exact e2⟩
theorem rds_fldM {f : Str} (h1 : DL.Rd K T S E te FE) : RdS K T S E (sFld K (tVar 0) te f) (xsMe K f FE) := fun σ ρ Hb0 H0 n0 Hb H n DD XP D a sl h q x => by
  refine h1 σ ρ Hb H n _ XP _ a.wd sl.sl h (fun d v n1 Hb1 H1 s hd pp => ?_) (x.step a)
  cases ρ with
  | nil => exact pp.elim
  | cons s0 r =>
    cases s0 with
    | me y C ns ds =>
      obtain ⟨nm, hc, ha, hl, hf, pp⟩ := pp
      have sl1 := sl.step s
      obtain ⟨o, e1, rfl, dx, fs, g1, g2, g3, g4, g5, g6, g7⟩ := sl1.sl.ok 0 _ rfl
      subst g6
      have f0 : Fresh H0 y := sl1.fr 0 _ y rfl rfl e1
      have ht : ∀ ps, HO.ins C dx fs ≠ .tbl ps := fun ps z => by cases z
      have hx : ∀ φ, HO.ins C dx fs ≠ .ext φ := fun ps z => by cases z
      have nu : ∀ ps, HO.ins C dx (putF f v fs) ≠ .tbl ps := fun ps z => by cases z
      have as := a.trans s
      refine ⟨.ref y, e1, y, C, dx, fs, rfl, g1, hc, ha, by rw [List.length_map] at hl; omega, ?_⟩
      have keep : ∀ {b : Addr} {o : HO}, H1 b = some o → b ≠ y → upd H1 y (.ins C dx (putF f v fs)) b = some o := fun e hb => by rw [upd_ne hb]; exact e
      refine q.nx (.me y C (fs.map (·.1) ++ [f]) (ds ++ [d]) :: r) _ n1 Hb1 _ s.ex ⟨as.ex, as.wd.put g1 g2 ht hx nu, fun h0 => ?_, fun b o e1 e2 e3 e4 e5 => ?_, fun b e => as.dm b (dm_upd nu b e)⟩ ⟨⟨sl1.sl.len, fun j t ej => ?_, fun j k p xs ys jk ej ek sj sk => ?_⟩, fun j t p ej eo sj => ?_⟩ pp
      · obtain ⟨k1, k2, ls, cs, m, t, k3, k4, k5, k6, k7, k8, rest⟩ := as.st h0
        exact ⟨k1, k2, ls, cs, m, t, k3, k4, k5, keep k6 g3.symm, keep k7 g4.symm, k8, rest⟩
      · have hb : b ≠ y := f0.ne e1 e5
        rw [upd_ne hb]
        exact as.own0 b o e1 e2 e3 e4 e5
      · cases j with
        | zero =>
          cases ej
          refine ⟨_, e1, rfl, dx, _, upd_same, g2, g3, g4, g5, ?_, ?_⟩
          · rw [putF_new hf]
            simp
          · rw [putF_new hf]
            simpa using g7.app (.one hd)
        | succ j =>
          have ej' : (SV.me y C (fs.map (·.1)) ds :: r)[j + 1]? = some t := ej
          have ejr : r[j]? = some t := ej
          obtain ⟨o, k1, k2⟩ := sl1.sl.ok (j + 1) t ej'
          refine ⟨o, k1, ?_⟩
          cases t with
          | no => trivial
          | d x => exact k2
          | st =>
            obtain ⟨k3, m1, m2, ls, cs, m, t, m3, m4, m5, m6, m7, m8, rest⟩ := k2
            exact ⟨k3, m1, m2, ls, cs, m, t, m3, m4, m5, keep m6 g3.symm, keep m7 g4.symm, m8, rest⟩
          | ol zs =>
            obtain ⟨p, ws, k3, k4, rest⟩ := k2
            exact ⟨p, ws, k3, keep k4 (fun z => by rw [z, g1] at k4; cases k4), rest⟩
          | me _ _ _ _ => exact absurd ejr (noMe_get nm)
          | od ks zs =>
            obtain ⟨p, kvs, k3, k4, rest⟩ := k2
            exact ⟨p, kvs, k3, keep k4 (fun z => by rw [z, g1] at k4; cases k4), rest⟩
          | ot ks zs =>
            obtain ⟨p, kvs, k3, k4, rest⟩ := k2
            exact ⟨p, kvs, k3, keep k4 (fun z => by rw [z, g1] at k4; cases k4), rest⟩
          | fv F =>
            obtain ⟨f', c', k3, k4, k5, rest⟩ := k2
            exact ⟨f', c', k3, k4, keep k5 (fun z => by rw [z, g1] at k5; exact codeO_no (o := .ins C dx fs) (fun _ z => by cases z) (Option.some.inj k5)), rest⟩
      · cases j with
        | zero => cases ej
        | succ j =>
          cases k with
          | zero => cases ek
          | succ k => exact sl1.sl.ap (j + 1) (k + 1) p xs ys jk ej ek sj sk
      · cases j with
        | zero =>
          have z : p = y := by
            rw [e1] at sj
            exact (V.ref.inj (Option.some.inj (Option.some.inj sj))).symm
          rw [z]
          exact f0
        | succ j => exact sl1.fr (j + 1) t p ej eo sj
    | _ => exact pp.elim

/-! ### __init__ -/
abbrev DSI := List SV → Nat → (List Str → List D → Nat → Prop) → DX → Prop
def spI (K : PySem.W.Frag) (T : Tb) (C : Addr) (DS : DSI) : Sp := fun vs H Q E => ∃ S Hb H1 n x dx ss us P XP, vs = .ref x :: us ∧ H = upd (upd H1 dx (.own x)) x (.ins C dx []) ∧ H1 x = none ∧ H1 dx = none ∧ dx ≠ x ∧ World T S Hb H1 ∧ Args K S Hb H1 n ss us ∧ (noOl ss = true ∧ DS ss n P XP) ∧
  (∀ ns ds dy fs n' Hb' H', Stp K T S Hb H1 n Hb' H' n' → H' x = some (.ins C dy fs) → Hb' x = none → fs.map (·.1) = ns → DnA K Hb' (fs.map (·.2)) ds → P ns ds n' → Q .non H') ∧ XOk K T S Hb H1 n XP E
theorem noL_me {ss : List SV} {x C : Addr} {ns : List Str} {ds : List D} (h : noOl ss = true) : noL (.me x C ns ds :: ss) = true := by
  have z : noL ss = true := noL_of h
  exact z
variable {P : Program} {w : PySem.World} {mg : Str → Option Value} {base : Heap}
theorem okI {x qual : Str} {st : Stmt} {f C : Addr} {fd : FuncData} {N ps : List Str} {k : Nat} {DS : DSI} (F : Fun K x qual st f fd) (Sc : FnScope N ps (defScope st)) (len : ∀ ss n P XP, DS ss n P XP → ss.length + 1 = ps.length)
    (hb : ∀ (S : SA) (cdv : Value) (A : Around) (outer : List Env) (s : Shared) (H : Hp) (E : XK), Room k (A.deeper (envOfC qual (defScope st) s.heap.objs.size f cdv)) →
      ∃ ts G, PSs (cxOf (L2.CX P w) P w K mg base N qual (defScope st) f cdv A outer s H E) (defBody st) ts ∧ RdS K T S E ts G ∧ ∀ y ss n P XP, DS ss n P XP → G { nx := fun ρ n => meD ρ fun y' C' ns ds _ => y' = y ∧ C' = C ∧ P ns ds n, rt := fun _ _ => False } (startS N (.me y C [] [] :: ss)) n XP) :
    FnOk P w K mg base (L2.CX P w) (k + 1) f fd ps (spI K T C DS) := by
  refine F.okX Sc (fun vs H Q E h => ?_) (fun cdv A outer s H vs Q E hr h => ?_)
  · obtain ⟨S, Hb, H1, n, y, dx, ss, us, P, XP, rfl, _, _, _, _, _, ha, ⟨_, hd⟩, _⟩ := h
    rw [List.length_cons, ← ha.len]
    exact len ss n P XP hd
  · obtain ⟨S, Hb, H1, n, y, dx, ss, us, P, XP, rfl, rfl, hy, hdx, ne, wd, ha, ⟨ho, hd⟩, q, x⟩ := h
    obtain ⟨ts, G, h1, h2, h3⟩ := hb S cdv A outer s _ E hr
    have s1 : Stp K T S Hb H1 n Hb (upd H1 dx (.own y)) n := .newO wd hdx
    have s2 : Stp K T S Hb H1 n Hb (upd (upd H1 dx (.own y)) y (.ins C dx [])) n := s1.trans (.newO s1.wd (by rw [upd_ne ne.symm]; exact hy))
    obtain ⟨n1, n2, n3⟩ := wd.nS (fresh_none hy)
    have hby : Hb y = none := free_of wd.ex hy
    refine ⟨ts, h1, h2 _ _ Hb H1 n Hb _ n _ XP _ s2 ⟨.start (ss := .me y C [] [] :: ss) (.cons (s := .me y C [] []) ⟨rfl, dx, [], upd_same, hby, n1, n2, n3, rfl, .nil⟩ (ha.step s2)) (noL_me ho), fun i t p ei eo sp => ?_⟩ (h3 y ss n P XP hd) ⟨fun ρ σ n' Hb' H' _ st sl p => ?_, fun _ _ _ _ _ _ _ p => p.elim, fun _ _ _ _ _ _ _ _ p => p.elim, fun _ _ _ _ _ _ _ _ p => p.elim⟩ x⟩
    · rcases start_cases ei with ei | rfl
      · cases i with
        | zero =>
          have z : p = y := by
            have z : (some (some (V.ref y)) : Option (Option V)) = some (some (.ref p)) := sp
            exact (V.ref.inj (Option.some.inj (Option.some.inj z))).symm
          rw [z]
          exact fresh_none hy
        | succ i =>
          rw [noOl_get ho ei] at eo
          cases eo
      · cases eo
    · cases ρ with
      | nil => exact p.elim
      | cons s0 r =>
        cases s0 with
        | me y' C' ns ds =>
          obtain ⟨rfl, rfl, p⟩ := p
          obtain ⟨o, e1, rfl, dy, fs, g1, g2, g3, g4, g5, g6, g7⟩ := sl.sl.ok 0 _ rfl
          exact q ns ds dy fs n' Hb' H' st g1 g2 g6 g7 p
        | _ => exact p.elim

/-! ### the caller -/
def xMake (K : PySem.W.Frag) (C : Addr) (DS : DSI) (G : DTA) : DT := fun ρ n P XP => G ρ n (fun ss n1 => InC K C ∧ noOl ss = true ∧ DS ss n1 (fun ns ds n2 => P (.ins C ns ds) n2) XP) XP
theorem made {C : Addr} {P : DQ} {Q : VK} {x dy : Addr} {fs : List (Str × V)} {ns : List Str} {ds : List D} (s : Stp K T S Hb H n Hb1 H1 n1) (ic : InC K C) (q : VOk K T S Hb H n P Q) (hx : H x = none) (e1 : H1 x = some (.ins C dy fs)) (e2 : Hb1 x = none) (e3 : fs.map (·.1) = ns) (e4 : DnA K Hb1 (fs.map (·.2)) ds) (w : World T S Hb H) (pp : P (.ins C ns ds) n1) : Q (.ref x) H1 := by
  obtain ⟨m1, m2, m3⟩ := w.nS (fresh_none hx)
  have z := s.freeze (o := .ins C dy fs) (fresh_none hx) e2 (by rw [e1]; exact fun z => by cases z) (fun ps z => by rw [e1] at z; cases z) (fun c u z => by rw [e1] at z; exact codeO_no (o := .ins C dy fs) (fun _ z => by cases z) (Option.some.inj z)) m1 m2 m3
  have e : upd H1 x (.ins C dy fs) = H1 := by
    funext b
    by_cases hb : b = x
    · rw [hb, upd_same, e1]
    · rw [upd_ne hb]
  rw [e] at z
  exact q _ _ n1 _ _ z (.ins ic upd_same e3 (e4.up (Ex.new e2))) pp
theorem rd_make {C : Addr} {DS : DSI} (h : RdA K T S E ta G) : DL.Rd K T S E (tMake C (spI K T C DS) [] E ta) (xMake K C DS G) := fun σ ρ Hb H n P XP Q w sl hf q x =>
  h σ ρ Hb H n _ XP _ w sl hf (fun ss vs n1 Hb1 H1 s ha p y dx hy hdx ne => by
    obtain ⟨ic, ho, hd⟩ := p
    exact ⟨S, Hb1, H1, n1, y, dx, ss, vs, _, XP, by rw [List.append_nil], rfl, hy, hdx, ne, s.wd, ha, ⟨ho, hd⟩, fun ns ds dy fs n' Hb' H' s2 e1 e2 e3 e4 pp => ⟨rfl, made s2 ic (q.step s) hy e1 e2 e3 e4 s.wd pp⟩, x.step s⟩) x
end
end DL

/-! a def that makes lambdas; work() caught -/
namespace DL
open L2 PySem PySem.Spec PyProof.Rows
open Evl (Ex ex_l ex_t sz_of)
/-- a def with its code object at c -/
structure FunC (K : PySem.W.Frag) (x qual : Str) (st : Stmt) (f : Addr) (fd : FuncData) (c : Addr) : Prop where
  ex : ∃ (oc : Value) (od : Option Addr) (kV doc pm : Value) (an : Option Addr) (ct : Value) (osl : Array (Option Value)),
    fd = PySem.W.fnOf x qual (defArgs st) (defBody st) (defScope st) .none kV doc pm an (.ref c) ct ∧ K.lookup f = some ⟨oc, od, .func fd, osl⟩ ∧ PySem.W.codeIn K (.ref c) qual = true
section
variable {P : Program} {w : PySem.World} {K : PySem.W.Frag} {T : Tb} {mg : Str → Option Value} {base : Heap}
theorem fnC_okD {x qual : Str} {st : Stmt} {f c : Addr} {fd : FuncData} {N ps : List Str} {k : Nat} {DS : DSp0} (F : FunC K x qual st f fd c) (Sc : FnScope N ps (defScope st)) (len : ∀ ss n P, DS ss n P → ss.length = ps.length)
    (hb : ∀ (S : SA) (A : Around) (outer : List Env) (s : Shared) (H : Hp) (E : XK), A.guards = some [] → Room k (A.deeper (envOfC qual (defScope st) s.heap.objs.size f (.ref c))) →
      ∃ ts G, PSs (cxOf CX0 P w K mg base N qual (defScope st) f (.ref c) A outer s H E).nox (defBody st) ts ∧ RdS K T S E0 ts G ∧ ∀ ss n P, DS ss n P → G { nx := fun _ n => P .non n, rt := P } (startS N ss) n xF) :
    FnG P w K mg base CX0 (k + 1) f fd ps (sp0 K T DS) := by
  obtain ⟨oc, od, kV, doc, pm, an, ct, osl, rfl, lk, hcd⟩ := F.ex
  have hl : ∀ vs H Q E, sp0 K T DS vs H Q E → vs.length = ps.length := fun vs H Q E h => by
    obtain ⟨S, Hb, n, ss, P, XP, _, ha, ⟨_, hd⟩, _⟩ := h
    rw [← ha.len]
    exact len ss n P hd
  refine ⟨hl, fun A g hr out s H args us vs Q E h r b e => LamX.run_ofS lk hcd Sc hr e b r (hl _ _ _ _ h) fun hr2 => ?_⟩
  obtain ⟨S, Hb, n, ss, P, XP, wd, ha, ⟨ho, hd⟩, q, _⟩ := h
  obtain ⟨ts, G, h1, h2, h3⟩ := hb S A out s H E g hr2
  exact ⟨ts, h1.nox, h2 _ _ Hb H n Hb H n _ xF _ (.refl wd) ⟨.start ha (noL_of ho), start_fr ho⟩ (h3 ss n P hd) ⟨fun ρ σ n' Hb' H' _ st _ p => q _ _ _ _ _ st .non p, q, fun _ _ _ _ _ _ _ _ p => p.elim, fun _ _ _ _ _ _ _ _ p => p.elim⟩ .none⟩
/-- what the frame that makes a lambda must know: its own code object and the table there -/
structure MakesAt (base : Heap) (mg : Str → Option Value) (T : Tb) (q : Str) (c : Addr) : Prop where
  ex : ∃ P, LamX.TabB base mg c P ∧ (P, q) ∈ T ∧ ∀ p ∈ T, p.1 = P → p.2 = q
end
section
variable {X : Cx} {T : Tb}
/-- _law_caught(lambda: body) -/
theorem lam_call {st : Stmt} {CS c : Addr} {k : Nat} {params : Arguments} {body : Expr} {scope : Scope} {t : XK → TE} {p lpos pos : Pos} (D : DefAt X.K X.mg "_law_caught" st ["work"]) (Sg : FnScope ["work", "caught", "error"] ["work"] (defScope st))
    (hG : ∀ g cdg, LamX.GivesTo X ["work", "caught", "error"] "_law_caught" (defScope st) g cdg (defBody st) "work" (X.env.qual ++ "<lambda>") (TTc X.K CS))
    (M : MakesAt X.base X.mg T (X.env.qual ++ "<lambda>") c) (hcode : X.env.code = .ref c) (hr : Room (k + 2) X.A) (L : LamX.LamS X.env.scope scope) (hg : Gl X "_law_caught") (hdef : defaultsOf params X.env = ([], []))
    (hbind : ∀ (q : Str) (cl : List (Str × Addr)) (pm cv ctv : Value), bindArgs (PySem.W.kla_fn "<lambda>" q params body scope cl pm cv ctv) ⟨[], []⟩ = pure [])
    (hbody : ∀ (A : Around) (outer : List Env) (s : Shared) (H : Hp) (E : XK) (f c' : Addr), Room k (A.deeper (LamX.lamEnv X scope s.heap.objs.size f c')) → PE (LamX.lamCx X A outer s H E scope f c') body (t E)) :
    PE X (.Call (.Name "_law_caught" p) [.Lambda params body scope lpos] [] pos) (LamX.tLam T (TTc X.K CS) t) := by
  obtain ⟨g, fd, F, hm, hk, hb⟩ := D
  obtain ⟨oc, od, kV, doc, pm, an, cdv, ct, osl, rfl, lk, hcd⟩ := F.ex
  obtain ⟨P, TB, hmT, hu⟩ := M.ex
  exact LamX.pe_lamcall (Ng := ["work", "caught", "error"]) hg hm hk lk hcd hb Sg rfl (Sg.par "work" (by simp) |>.elim (fun q => .inl q) fun q => .inr (.inl q)) (hG g cdv) TB hcode hmT hu hr L hdef hbind hbody
end
end DL

/-! how defs and classes stand, in short; keywords of a class -/
namespace DL
open L2 PySem PySem.Spec PyProof.Rows
open Evl (Ex ex_l ex_t sz_of)
def gsw {α : Type} : List α → List α → List α
  | [s], [a, b] => [s, b, a]
  | us, ws => us ++ ws
theorem gsw_rel {vs : List V} {us : List Value} {zs : List V} {ws : List Value} (h : Vals vs us) (g : Vals zs ws) : Vals (gsw vs zs) (gsw us ws) := by
  have d : Vals (vs ++ zs) (us ++ ws) := h.append g
  cases h with
  | nil => simpa [gsw] using d
  | cons a ra =>
    cases ra with
    | cons b rb => simpa [gsw] using d
    | nil =>
      cases g with
      | nil => simpa [gsw] using d
      | cons b rb =>
        cases rb with
        | nil => simpa [gsw] using d
        | cons c rc =>
          cases rc with
          | nil => exact .cons a (.cons c (.cons b .nil))
          | cons e re => simpa [gsw] using d
/-- a class whose __init__ takes two values -/
def Init2 (K : PySem.W.Frag) (qual : Str) (C : Addr) (st : Stmt) (a b : Str) : Prop :=
  ∃ f fd, Fun K "__init__" qual st f fd ∧ Mk K C f ∧ Binds K fd ["self", a, b] [] ∧ KBn K fd ["self", a, b] 1 [b, a] gsw gsw
def HasI (P : Program) (w : PySem.World) (K : PySem.W.Frag) (mg : Str → Option Value) (base : Heap) (k : Nat) (C : Addr) (a b : Str) (sp : Sp) : Prop :=
  ∃ f fd, FnOk P w K mg base (L2.CX P w) k f fd ["self", a, b] sp ∧ Mk K C f ∧ Binds K fd ["self", a, b] [] ∧ KBn K fd ["self", a, b] 1 [b, a] gsw gsw
def HasG (P : Program) (w : PySem.World) (K : PySem.W.Frag) (mg : Str → Option Value) (base : Heap) (CX : CXT) (k : Nat) (name : Str) (ps : List Str) (sp : Sp) : Prop :=
  ∃ f fd, FnG P w K mg base CX k f fd ps sp ∧ mg name = some (.ref f) ∧ PySem.W.keepIn K (.ref f) = true ∧ Binds K fd ps []
def DefC (K : PySem.W.Frag) (mg : Str → Option Value) (name : Str) (st : Stmt) (ps : List Str) (c : Addr) : Prop :=
  ∃ f fd, FunC K name name st f fd c ∧ mg name = some (.ref f) ∧ PySem.W.keepIn K (.ref f) = true ∧ Binds K fd ps []
section
variable {K : PySem.W.Frag} {T : Tb} {S : SA} {E : XK} {ta : TA} {G : DTA}
end
end DL

/-! the source of draws is made; a law's own def -/
namespace DL
open L2 PySem PySem.Spec PyProof.Rows
open Evl (Ex ex_l ex_t sz_of)
def stBegun (l c : Addr) : List (Key × V) := [(kLarge, .ref l), (kCells, .ref c), (kLeft, .int 0), (kTurn, .int 0)]
/-- _law_begun(script) -/
def spBegun (K : PySem.W.Frag) : Sp := fun vs H Q _ => ∃ (a : Addr) (ns : List Int), vs = [.ref a] ∧ SqL K H a (ns.map V.int) ∧ ns.length ≤ 63 ∧
  ∀ (c l d : Addr) (cs ls : List Int) (H' : Hp), H c = none → H l = none → H d = none → c ≠ l → c ≠ d → l ≠ d → H' c = some (.lst (cs.map V.int)) → H' l = some (.lst (ls.map V.int)) → H' d = some (.dK (stBegun l c)) →
    (∀ b, b ≠ c → b ≠ l → b ≠ d → H' b = H b) → (∀ x ∈ cs, 0 ≤ x) → (∀ x ∈ ls, 0 ≤ x) → cs.length ≤ 63 → ls.length ≤ 63 → Q (.ref d) H'
section
variable {K : PySem.W.Frag} {T : Tb} {H H' : Hp} {a c l d : Addr} {ns cs ls : List Int}
theorem world_from {Hb : Hp} (tabs : LamX.Tabs T H) (hc : H c = none) (hl : H l = none) (hd : H d = none) (cl : c ≠ l) (cd : c ≠ d) (ld : l ≠ d) (e1 : H' c = some (.lst (cs.map V.int))) (e2 : H' l = some (.lst (ls.map V.int))) (e3 : H' d = some (.dK (stBegun l c)))
    (keep : ∀ b, b ≠ c → b ≠ l → b ≠ d → H' b = H b) (p1 : ∀ x ∈ cs, 0 ≤ x) (p2 : ∀ x ∈ ls, 0 ≤ x) (l1 : cs.length ≤ 63) (l2 : ls.length ≤ 63) (eb : Ex Hb H) (nt : ∀ b ps, Hb b ≠ some (.tbl ps)) :
    World T ⟨d, l, c, cs⟩ (upd Hb c (.lst (cs.map V.int))) H' ∧ StOk K ⟨d, l, c, cs⟩ (upd Hb c (.lst (cs.map V.int))) H' 0 := by
  have kp : ∀ {b : Addr} {o : HO}, H b = some o → H' b = some o := fun {b o} e => by
    rw [keep b (ne_of_none e hc) (ne_of_none e hl) (ne_of_none e hd)]
    exact e
  have fb : ∀ {b : Addr}, H b = none → Hb b = none := fun h => Evl.fresh_back eb h
  refine ⟨⟨fun b o e => ?_, fun p hp => (tabs p hp).ext fun b o e => kp e, fun p hp => ?_, ⟨_, e3, (fun _ z => by cases z)⟩, ⟨_, e2, (fun _ z => by cases z)⟩, ⟨_, e1, (fun _ z => by cases z)⟩, fun b ps z => ?_⟩, ?_⟩
  · by_cases hb : b = c
    · rw [hb, upd_same] at e
      rw [hb, e1]
      exact e
    · rw [upd_ne hb] at e
      exact kp (eb b o e)
  · obtain ⟨ps, e, _⟩ := tabs p hp
    rw [upd_ne (ne_of_none e hc)]
    cases h : Hb p.1 with
    | none => rfl
    | some o =>
      have z := eb _ _ h
      rw [e] at z
      cases z
      exact (nt _ _ h).elim
  · by_cases hb : b = c
    · rw [hb, upd_same] at z
      cases z
    · rw [upd_ne hb] at z
      exact nt b ps z
  · refine ⟨by rw [upd_ne cd.symm]; exact fb hd, by rw [upd_ne cl.symm]; exact fb hl, ls, cs, 0, 0, cl, cd, ld.symm, e3, e2, upd_same, p2, p1, Int.le_refl _, Nat.le_refl _, l2, l1, rfl⟩
theorem begun_world (tabs : LamX.Tabs T H) (hS : SqL K H a (ns.map V.int)) (hc : H c = none) (hl : H l = none) (hd : H d = none) (cl : c ≠ l) (cd : c ≠ d) (ld : l ≠ d) (e1 : H' c = some (.lst (cs.map V.int))) (e2 : H' l = some (.lst (ls.map V.int))) (e3 : H' d = some (.dK (stBegun l c)))
    (keep : ∀ b, b ≠ c → b ≠ l → b ≠ d → H' b = H b) (p1 : ∀ x ∈ cs, 0 ≤ x) (p2 : ∀ x ∈ ls, 0 ≤ x) (l1 : cs.length ≤ 63) (l2 : ls.length ≤ 63) :
    ∃ Hb, World T ⟨d, l, c, cs⟩ Hb H' ∧ StOk K ⟨d, l, c, cs⟩ Hb H' 0 ∧ SqL K Hb a (ns.map V.int) := by
  rcases hS with hR | hK
  · have hH : ∃ o, H a = some o ∧ (∀ ps, o ≠ .tbl ps) ∧ ∀ Hb : Hp, Hb a = some o → L2.Rd Hb a (.lst (ns.map V.int)) := by
      rcases hR with h | ⟨o, h⟩
      · exact ⟨_, h, (fun _ z => by cases z), fun Hb e => .inl e⟩
      · exact ⟨_, h, (fun _ z => by cases z), fun Hb e => .inr ⟨o, e⟩⟩
    obtain ⟨o, h, ho, rd⟩ := hH
    have eb : Ex (upd (fun _ => none) a o) H := fun b u e => by
      by_cases hb : b = a
      · rw [hb, upd_same] at e
        rw [hb, h]
        exact e
      · rw [upd_ne hb] at e
        cases e
    obtain ⟨g1, g2⟩ := world_from (K := K) tabs hc hl hd cl cd ld e1 e2 e3 keep p1 p2 l1 l2 eb (nt_upd (fun _ _ z => by cases z) ho)
    exact ⟨_, g1, g2, .inl (rd _ (by rw [upd_ne (ne_of_none h hc)]; exact upd_same))⟩
  · obtain ⟨g1, g2⟩ := world_from (Hb := fun _ => none) (K := K) tabs hc hl hd cl cd ld e1 e2 e3 keep p1 p2 l1 l2 (fun _ _ e => by cases e) (fun _ _ z => by cases z)
    exact ⟨_, g1, g2, .inr hK⟩
/-- the source of draws is stored -/
theorem Slots.setSt {S : SA} {Hb : Hp} {n : Nat} {ρ : List SV} {σ : L2.St} {i : Nat} (sl : Slots K S Hb H n ρ σ) (h : StOk K S Hb H n) : Slots K S Hb H n (ρ.set i .st) (σ.set i (some (.ref S.a))) where
  len := by rw [List.length_set, List.length_set]; exact sl.len
  ok := fun j s e => by
    by_cases hj : i = j
    · subst hj
      have hl : i < ρ.length := by
        have := (List.getElem?_eq_some_iff.mp e).1
        rwa [List.length_set] at this
      rw [List.getElem?_set_self hl] at e
      cases e
      exact ⟨_, List.getElem?_set_self (by rw [← sl.len]; exact hl), rfl, h⟩
    · rw [List.getElem?_set_ne hj] at e
      obtain ⟨o, e1, e2⟩ := sl.ok j s e
      exact ⟨o, by rw [List.getElem?_set_ne hj]; exact e1, e2⟩
  ap := fun j k q ys zs hjk ej ek sj sk => by
    have f : ∀ {m : Nat} {u : List D}, (ρ.set i .st)[m]? = some (.ol u) → i ≠ m ∧ ρ[m]? = some (.ol u) := fun {m u} e => by
      by_cases hm : i = m
      · subst hm
        have hl : i < ρ.length := by
          have := (List.getElem?_eq_some_iff.mp e).1
          rwa [List.length_set] at this
        rw [List.getElem?_set_self hl] at e
        cases e
      · rw [List.getElem?_set_ne hm] at e
        exact ⟨hm, e⟩
    obtain ⟨h1, e1⟩ := f ej
    obtain ⟨h2, e2⟩ := f ek
    rw [List.getElem?_set_ne h1] at sj
    rw [List.getElem?_set_ne h2] at sk
    exact sl.ap j k q ys zs hjk e1 e2 sj sk
/-- a, b = e, where a frame's cell is among them -/
def xsAsgG (F : DT) (G : DTG) : DTS := fun DD ρ n XP => F ρ n (fun d n1 => G d ρ fun ρ2 => DD.nx ρ2 n1) XP
theorem rds_asgG {S : SA} {E : XK} {vs : List Nat} {g : TG} {G : DTG} {te : TE} {FE : DT} (h1 : DL.Rd K T S E te FE) (hg : RdG K T S vs g G) : RdS K T S E (tAsg te g) (xsAsgG FE G) := fun σ ρ Hb0 H0 n0 Hb H n DD XP D a sl h q x =>
  h1 σ ρ Hb H n _ XP _ a.wd sl.sl h (fun d v n1 Hb1 H1 s hd pp => hg v d σ ρ H0 Hb1 H1 n1 _ _ s.wd (sl.step s) hd pp fun ρ' σ' sl' _ p => q.nx _ _ n1 Hb1 H1 s.ex (a.trans s) sl' p) (x.step a)
/-- a law's promise: True at every script -/
def spLaw (K : PySem.W.Frag) (T : Tb) : Sp := fun vs H Q _ => ∃ (a : Addr) (ns : List Int), vs = [.ref a] ∧ SqL K H a (ns.map V.int) ∧ ns.length ≤ 63 ∧ LamX.Tabs T H ∧ ∀ H', Q (.bl true) H'
/-- state = _law_begun(script), then the rest on data -/
theorem law_body {N : List Str} {E9 : XK} {ts : TS} {Q : VK} (hN : 2 ≤ N.length) (hS : SqL K H a (ns.map V.int)) (hl : ns.length ≤ 63) (tabs : LamX.Tabs T H) (q : ∀ H', Q (.bl true) H')
    (rest : ∀ S : SA, ∃ G, RdS K T S E0 ts G ∧ G { nx := fun _ _ => False, rt := fun d _ => d = .bl true } ((startS N [.d (.lst (ns.map D.int))]).set 1 .st) 0 xF) :
    tSeq (tAsg (tCall (spBegun K) [] E9 (tCons (tVar 0) tNil)) (gName 1)) ts { nx := fun _ H' => Q .non H', rt := Q } (L2.start N [.ref a]) H := by
  refine ⟨.ref a, rfl, a, ns, rfl, hS, hl, fun c l d cs ls H' hc hl' hd cl cd ld e1 e2 e3 keep p1 p2 l1 l2 => ?_⟩
  obtain ⟨Hb, w, st, hS'⟩ := begun_world (T := T) tabs hS hc hl' hd cl cd ld e1 e2 e3 keep p1 p2 l1 l2
  obtain ⟨G, hG, g⟩ := rest ⟨d, l, c, cs⟩
  have sl0 : Slots K ⟨d, l, c, cs⟩ Hb H' 0 (startS N [.d (.lst (ns.map D.int))]) (L2.start N [.ref a]) := .start (.cons ⟨_, rfl, .lst hS' (DnA.ints ns)⟩ .nil) rfl
  refine hG _ _ Hb H' 0 Hb H' 0 _ xF _ (.refl w) ⟨sl0.setSt (i := 1) st, fun i s p ei eo _ => ?_⟩ g ⟨fun _ _ _ _ _ _ _ _ p => p.elim, fun dd v n' Hb' H2 _ hv e => ?_, fun _ _ _ _ _ _ _ _ p => p.elim, fun _ _ _ _ _ _ _ _ p => p.elim⟩ .none
  · by_cases hi : 1 = i
    · subst hi
      have h1 : 1 < (startS N [.d (.lst (ns.map D.int))]).length := by
        have := (List.getElem?_eq_some_iff.mp ei).1
        rwa [List.length_set] at this
      rw [List.getElem?_set_self h1] at ei
      cases ei
      cases eo
    · rw [List.getElem?_set_ne hi] at ei
      rcases start_cases ei with h | rfl
      · rw [noOl_get (ss := [.d (.lst (ns.map D.int))]) rfl h] at eo
        cases eo
      · cases eo
  · subst e
    cases hv
    exact q H2
end
end DL

/-! list(zip(a, b)) of two tuples -/
namespace RZ
open PySem PySem.Calls PyProof.Rows PyProof.V PySem.Spec PySem.W
section
variable {prog : Program} {w : World} {A : Around} {E : Value → Shared → Prop} {s : Shared}
/-- the zip amid its run, its tuples kept by others -/
structure ZSt (h : Heap) (z TI TO i1 i2 a b : Addr) (k : Nat) : Prop where
  ti : IsPair h TI (.ref i1) (.ref i2)
  one : h.IsTupleIter i1 a k
  two : h.IsTupleIter i2 b k
  fst : (IsZip h z TI TO .none ∧ ∃ x y, IsPair h TO x y) ∨ ∃ T f o, IsZipHeld h z TI TO T f ∧ h.get? T = some o ∧ T ≠ z ∧ T ≠ i1 ∧ T ≠ i2
theorem ZSt.at {h h' : Heap} {z TI TO i1 i2 a b : Addr} {k : Nat} (x : ZSt h z TI TO i1 i2 a b k) {S : Addr} (e : ∀ c o, c ≠ S → h.get? c = some o → h'.get? c = some o) (es : ∃ o, h'.get? S = some o) (n1 : S ≠ z) (n2 : S ≠ TI) (n3 : S ≠ TO) (n4 : S ≠ i1) (n5 : S ≠ i2) : ZSt h' z TI TO i1 i2 a b k := by
  obtain ⟨h1, h2, h3, h4⟩ := x
  refine ⟨e _ _ n2.symm h1, h2.at fun o q => e _ o n4.symm q, h3.at fun o q => e _ o n5.symm q, ?_⟩
  rcases h4 with ⟨h4, x, y, h5⟩ | ⟨T, f, o, h4, h5, h6⟩
  · exact .inl ⟨e _ _ n1.symm h4, x, y, e _ _ n3.symm h5⟩
  · by_cases hT : T = S
    · obtain ⟨o', es⟩ := es
      exact .inr ⟨T, f, o', e _ _ n1.symm h4, by rw [hT]; exact es, h6⟩
    · exact .inr ⟨T, f, o, e _ _ n1.symm h4, e _ _ hT h5, h6⟩
end
section
variable {prog : Program} {w : World} {A : Around} {s : Shared} {R : Result → Shared → Prop} {xs ys : Array Value} {z TI TO i1 i2 l1 l2 S : Addr} {N : Nat}
end
end RZ
namespace RZ
open PySem PySem.Spec PyProof.Rows L2
theorem Un.more {fs ex : List Addr} {H H1 : Hp} {h h' : Heap} {a : Addr} {o : HO} (u : Un fs ex H H1 h h') (hp : h.objs.size ≤ a) (hn : H1 a = none) : Un fs ex H (upd H1 a o) h h' where
  keep := u.keep
  slot := u.slot
  free := fun b ob q n hx => by rw [upd_ne (Nat.ne_of_lt (Nat.lt_of_lt_of_le (Heap.lt_size q) hp))]; exact u.free b ob q n hx
  there := u.there
  tups := fun b xs q => by
    have z := u.tups b xs q
    rw [upd_ne (ne_of_none z hn)]; exact z
  frzs := fun b ob v q => by
    have z := u.frzs b ob v q
    rw [upd_ne (ne_of_none z hn)]; exact z
  tbls := fun b ps q => by
    obtain ⟨m, z⟩ := u.tbls b ps q
    exact ⟨m, by rw [upd_ne (ne_of_none z hn)]; exact z⟩
theorem vals_refs : ∀ (as : List Addr), Vals (as.map V.ref) (as.map Value.ref)
  | [] => .nil
  | a :: as => .cons rfl (vals_refs as)
end RZ
namespace DL
open L2 PySem PySem.Spec PyProof.Rows
open Evl (Ex ex_l ex_t sz_of)
section
variable {K : PySem.W.Frag} {T : Tb} {S : SA} {E : XK}
end
end DL

/-! the end over a head by facts -/
namespace DL
open L2 PySem PySem.Spec PyProof.Rows
theorem walkGE {l : PySem.W.OpenLaw} {n k : Nat} {q : Program} {loose : List Str} {XP : (Str → Option Value) → Heap → Prop} {YP : PySem.World → Heap → Prop} {d : DefRec} {CX : PySem.World → CXT} {x : Str}
    (hn : l.most = some n) (hn2 : n ≤ sizeLine) (hdf : d.params.defaults = []) (hr : Room k callerA)
    (F : ∀ (w : PySem.World) (mg : Str → Option Value) (fa : Addr) (h : Heap), YP w h → h.Ns mainGlobals mg → mg d.name = some (.ref fa) → ∃ K : PySem.W.Frag, K.In h ∧ LawG l w K (CX w) k n x mg fa h)
    (hX : ∀ (w : PySem.World) (H : Hp) (s : Shared) (e : Value) (s' : Shared), CX w [] H s (fun _ _ _ => False) e s' → False) :
    PySem.W.WalkO q loose XP YP l.row.toRowW d [] (fun f vs => PySem.call f vs) :=
  Att.attach_callB hn hdf fun w s₀ s₁ mg mb fa o pm cd doc a vs ns G Y ho hd hcd hmg hobj hints hlen hbits hg => by
    obtain ⟨K, KX, cs, fd, sp, ⟨h1, h2, h3⟩, hF, hb, hsp⟩ := F w mg fa _ Y G.T.g hmg
    exact end_call KX G.T.g G.T.b G.T.builtins G.T.nolimit hg h1 h3 h2 G.T.bmain hobj hints (Nat.le_trans hlen hn2) hr hF hb (fun H hH hS => hsp H a ns hlen hbits hH hS) fun H e s' => hX w H s₁ e s'

/-! ### facts as Bools -/
open He (ga ma fAd cT)
def eqB (a b : Option Bool) : Bool := match a, b with
  | some x, some y => x == y
  | _, _ => false
theorem eqB_ok {a : Option Bool} {b : Bool} (h : eqB a (some b) = true) : a = some b := by
  cases a with
  | none => cases h
  | some x =>
    have e : (x == b) = true := h
    rw [eq_of_beq e]
def tys6 : List String := ["int", "bool", "str", "tuple", "list", "dict"]
def tys7 : List String := ["NoneType", "bool", "int", "str", "list", "tuple", "dict"]
def noTyB (K : PySem.W.Frag) (C : Addr) : Bool := tys6.all fun t => eqB (PySem.W.kitOne K (.ref C) (.type t)) (some false)
theorem noTyB_ok {K : PySem.W.Frag} {C : Addr} (h : noTyB K C = true) : NoTy K C := fun t ht => eqB_ok (List.all_eq_true.mp h t ht)
def excCB (K : PySem.W.Frag) (D : Addr) : Bool :=
  He.eqO (PySem.W.findIn K (.ref D) "__getattribute__") (some (some (.builtin "BaseException.__getattribute__"))) && (He.eqO (PySem.W.findIn K (.ref D) "__getattr__") (some none) && (eqB (PySem.W.subIn K (.ref D) (.type "BaseException")) (some true) && (PySem.W.hasDictIn K D &&
  (He.eqO (PySem.W.findIn K (.ref D) "__class__") (some (some (.builtin "object.__class__"))) && (He.eqO (PySem.W.specialIn K (.builtin "object.__class__") "__get__") (some (some (.builtin "getset_descriptor.__get__"))) && (eqB (PySem.W.takesIn K (.builtin "object.__class__")) (some true) && eqB (PySem.W.mroIn K D (.type "object")) (some true)))))))
theorem b2 {a b : Bool} (h : (a && b) = true) : a = true ∧ b = true := Bool.and_eq_true_iff.mp h
theorem excCB_ok {K : PySem.W.Frag} {D : Addr} (h : excCB K D = true) : ExcC K D := by
  obtain ⟨h1, h⟩ := b2 h
  obtain ⟨h2, h⟩ := b2 h
  obtain ⟨h3, h⟩ := b2 h
  obtain ⟨h4, h⟩ := b2 h
  obtain ⟨h5, h⟩ := b2 h
  obtain ⟨h6, h⟩ := b2 h
  obtain ⟨h7, h8⟩ := b2 h
  exact ⟨He.eqO_ok h1, He.eqO_ok h2, eqB_ok h3, h4, He.eqO_ok h5, He.eqO_ok h6, eqB_ok h7, eqB_ok h8⟩
def errCB (K : PySem.W.Frag) (CS C : Addr) : Bool := excCB K C && (noTyB K C && eqB (PySem.W.exmOne K (.ref C) (.ref CS)) (some true))
theorem errCB_ok {K : PySem.W.Frag} {CS C : Addr} (h : errCB K CS C = true) : ErrC K CS C := by
  obtain ⟨h1, h⟩ := b2 h
  obtain ⟨h2, h3⟩ := b2 h
  exact ⟨excCB_ok h1, noTyB_ok h2, eqB_ok h3⟩
def eqV (a : Option Value) (b : Value) : Bool := He.eqO (some a) (some (some b))
theorem eqV_ok {a : Option Value} {b : Value} (h : eqV a b = true) : a = some b := Option.some.inj (He.eqO_ok h)
def veB : List Value := [.type "ValueError", .type "Exception", .type "BaseException", .type "object"]
structure ErrF (K : PySem.W.Frag) (CS C : Addr) : Prop where
  x : PySem.W.excIn K C veB "ValueError.__new__" = true
  e : PySem.W.keepIn K (.ref C) = true
  b : PySem.W.subIn K (.ref C) (.type "BaseException") = some true
  t : PySem.W.typeIn K (.ref C) = some (.type "type")
  r : ErrC K CS C
  i : PySem.W.kitOne K (.ref C) (.ref C) = some true
  v : PySem.W.kitOne K (.ref C) (.type "ValueError") = some true
def errFB (K : PySem.W.Frag) (CS C : Addr) : Bool := PySem.W.excIn K C veB "ValueError.__new__" && (PySem.W.keepIn K (.ref C) && (eqB (PySem.W.subIn K (.ref C) (.type "BaseException")) (some true) && (eqV (PySem.W.typeIn K (.ref C)) (.type "type") && (errCB K CS C && (eqB (PySem.W.kitOne K (.ref C) (.ref C)) (some true) && eqB (PySem.W.kitOne K (.ref C) (.type "ValueError")) (some true))))))
theorem errFB_ok {K : PySem.W.Frag} {CS C : Addr} (h : errFB K CS C = true) : ErrF K CS C := by
  obtain ⟨h1, h⟩ := b2 h
  obtain ⟨h2, h⟩ := b2 h
  obtain ⟨h3, h⟩ := b2 h
  obtain ⟨h4, h⟩ := b2 h
  obtain ⟨h5, h⟩ := b2 h
  obtain ⟨h6, h7⟩ := b2 h
  exact ⟨h1, h2, eqB_ok h3, eqV_ok h4, errCB_ok h5, eqB_ok h6, eqB_ok h7⟩
def clsB (K : PySem.W.Frag) (C : Addr) : Bool := PySem.W.plainGet K C Str.empty && (PySem.W.hasDictIn K C && (PySem.W.plainOver K C && He.eqO (PySem.W.findIn K (.ref C) "__setattr__") (some (some (.builtin "object.__setattr__")))))
theorem clsB_ok {K : PySem.W.Frag} {C : Addr} (h : clsB K C = true) : Cls K C := by
  obtain ⟨h1, h⟩ := b2 h
  obtain ⟨h2, h⟩ := b2 h
  obtain ⟨h3, h4⟩ := b2 h
  exact ⟨h1, h2, h3, He.eqO_ok h4⟩
def inCB (K : PySem.W.Frag) (C : Addr) : Bool := clsB K C && (He.eqO (PySem.W.findIn K (.ref C) "__class__") (some (some (.builtin "object.__class__"))) && (He.eqO (PySem.W.specialIn K (.builtin "object.__class__") "__get__") (some (some (.builtin "getset_descriptor.__get__"))) &&
  (eqB (PySem.W.takesIn K (.builtin "object.__class__")) (some true) && (eqB (PySem.W.mroIn K C (.type "object")) (some true) && noTyB K C))))
theorem inCB_ok {K : PySem.W.Frag} {C : Addr} (h : inCB K C = true) : InC K C := by
  obtain ⟨h1, h⟩ := b2 h
  obtain ⟨h2, h⟩ := b2 h
  obtain ⟨h3, h⟩ := b2 h
  obtain ⟨h4, h⟩ := b2 h
  obtain ⟨h5, h6⟩ := b2 h
  exact ⟨clsB_ok h1, He.eqO_ok h2, He.eqO_ok h3, eqB_ok h4, eqB_ok h5, noTyB_ok h6⟩
structure ClsF (K : PySem.W.Frag) (C : Addr) (as : List Str) : Prop where
  ic : InC K C
  no : ∀ t ∈ tys7, PySem.W.kitOne K (.type t) (.ref C) = some false
  i : PySem.W.kitOne K (.ref C) (.ref C) = some true
  na : ∀ a ∈ as, NoAttr K C a
def clsFB (K : PySem.W.Frag) (C : Addr) (as : List Str) : Bool := inCB K C && ((tys7.all fun t => eqB (PySem.W.kitOne K (.type t) (.ref C)) (some false)) && (eqB (PySem.W.kitOne K (.ref C) (.ref C)) (some true) && as.all fun a => He.eqO (PySem.W.findIn K (.ref C) a) (some none)))
theorem clsFB_ok {K : PySem.W.Frag} {C : Addr} {as : List Str} (h : clsFB K C as = true) : ClsF K C as := by
  obtain ⟨h1, h⟩ := b2 h
  obtain ⟨h2, h⟩ := b2 h
  obtain ⟨h3, h4⟩ := b2 h
  exact ⟨inCB_ok h1, fun t ht => eqB_ok (List.all_eq_true.mp h2 t ht), eqB_ok h3, fun a ha => He.eqO_ok (List.all_eq_true.mp h4 a ha)⟩
def mkB (K : PySem.W.Frag) (C : Addr) : Bool := PySem.W.makesIn K C && (He.eqO (PySem.W.findIn K (.ref C) "__init__") (some (some (.ref (ma K C "__init__")))) && (PySem.W.isFn K (.ref (ma K C "__init__")) && PySem.W.keepIn K (.ref C)))
theorem mkB_ok {K : PySem.W.Frag} {C : Addr} (h : mkB K C = true) : Mk K C (ma K C "__init__") := by
  obtain ⟨h1, h⟩ := b2 h
  obtain ⟨h2, h⟩ := b2 h
  obtain ⟨h3, h4⟩ := b2 h
  exact ⟨h1, He.eqO_ok h2, h3, h4⟩
section
variable {K : PySem.W.Frag} {mg : Str → Option Value}
/-- a def whose code object has a table -/
theorem funC_of {p : He.Defn} {x qual : Str} {st : Stmt} {fd : FuncData} {kws : List (Str × V)} (F : L2.FunD K x qual (defArgs st) (defBody st) (defScope st) [] kws (fAd K p) fd) : FunC K x qual st (fAd K p) fd (cT K p).1 := by
  obtain ⟨oc, od, dV, kV, doc, pm, an, cdv, ct, osl, e, l, c, hd, _⟩ := F.ex
  rcases hd with ⟨_, e2⟩ | ⟨e2, _⟩
  · subst e2
    obtain ⟨c', rfl⟩ := He.codeIn_ref c
    have z : He.codeOf K p = c' := He.codeOf_eq l (by rw [e])
    have z2 : (cT K p).1 = c' := z
    rw [z2]
    exact ⟨oc, od, kV, doc, pm, an, ct, osl, e, l, c⟩
  · exact absurd rfl e2
theorem init2_of {qual : Str} {C : Addr} {st : Stmt} {a b : Str} {fd : FuncData} (F : L2.Fun K "__init__" qual st (ma K C "__init__") fd) (m : Mk K C (ma K C "__init__")) (hb : Binds K fd ["self", a, b] [])
    (hk : ∀ (s : Shared) (us ws : List Value), us.length = 1 → ws.length = 2 → BindsTo s fd ⟨us, [b, a].zip ws⟩ ((["self", a, b] : List Str).zip (gsw us ws))) : Init2 K qual C st a b :=
  ⟨_, fd, F, m, hb, ⟨fun s us ws _ h1 h2 => hk s us ws h1 h2, fun h g => gsw_rel h g⟩⟩
end
end DL
namespace DL
open L2 PySem PySem.Spec PyProof.Rows
open He (ga ma fAd cT)
def TTof (K : PySem.W.Frag) (tfs : List (He.Defn × Str)) : Tb := tfs.map fun p => ((cT K p.1).2, p.2)
def apartB (K : PySem.W.Frag) (tfs : List (He.Defn × Str)) : Bool := tfs.all fun p => tfs.all fun q => !(decide ((cT K p.1).2 = (cT K q.1).2)) || decide (p.2 = q.2)
theorem makesAt_of {K : PySem.W.Frag} {base : Heap} {mg : Str → Option Value} {tfs : List (He.Defn × Str)} (hn : apartB K tfs = true) (TB : ∀ p ∈ tfs.map (fun p => cT K p.1), LamX.TabB base mg p.1 p.2) {p : He.Defn × Str} (hp : p ∈ tfs) : MakesAt base mg (TTof K tfs) p.2 (cT K p.1).1 :=
  ⟨⟨(cT K p.1).2, TB _ (List.mem_map.mpr ⟨p, hp, rfl⟩), List.mem_map.mpr ⟨p, hp, rfl⟩, fun q hq e => by
    obtain ⟨r, hr, rfl⟩ := List.mem_map.mp hq
    have h1 := List.all_eq_true.mp (List.all_eq_true.mp hn r hr) p hp
    have e' : (cT K r.1).2 = (cT K p.1).2 := e
    simpa [e'] using h1⟩⟩
theorem tabs_of {K : PySem.W.Frag} {H : Hp} {tfs : List (He.Defn × Str)} (hH : ∀ p ∈ tfs.map (fun p => cT K p.1), H p.2 = some (.tbl #[])) : LamX.Tabs (TTof K tfs) H := fun q hq => by
  obtain ⟨r, hr, rfl⟩ := List.mem_map.mp hq
  exact LamX.TabS.nil (hH _ (List.mem_map.mpr ⟨r, hr, rfl⟩))
end DL

/-! lists of one's own: frozen, looked at, popped; while; stores of new lists -/
namespace DL
open L2 PySem PySem.Spec PyProof.Rows
open Evl (Ex ex_l ex_t sz_of)
section
variable {K : PySem.W.Frag} {T : Tb} {S : SA} {E : XK} {Hb H Hb1 H1 Hb2 H2 : Hp} {n n1 n2 : Nat} {te : TE} {FE : DT}
theorem upd_id {H : Hp} {p : Addr} {o : HO} (h : H p = some o) : upd H p o = H := by
  funext b
  by_cases hb : b = p
  · rw [hb, upd_same, h]
  · rw [upd_ne hb]
/-- the list at p counts as frozen -/
theorem frz_world {p : Addr} {vs : List V} (w : World T S Hb H) (h1 : H p = some (.lst vs)) : World T S (upd Hb p (.lst vs)) H :=
  ⟨fun b o e => by
    by_cases hb : b = p
    · rw [hb, upd_same] at e
      rw [hb, h1]
      exact e
    · rw [upd_ne hb] at e
      exact w.ex b o e, w.tabs, fun q hq => by
    obtain ⟨ps, e, _⟩ := w.tabs q hq
    rw [upd_ne (fun z => by rw [z, h1] at e; cases e)]
    exact w.tb q hq, w.sa, w.sl, w.sc, nt_upd w.nt fun _ z => by cases z⟩
theorem frz_st {p : Addr} {vs : List V} (h3 : p ≠ S.a) (h4 : p ≠ S.l) (h5 : p ≠ S.c) (h : StOk K S Hb H n) : StOk K S (upd Hb p (.lst vs)) H n := by
  obtain ⟨g1, g2, ls, cs, m, t, g3, g4, g5, g6, g7, g8, rest⟩ := h
  exact ⟨by rw [upd_ne h3.symm]; exact g1, by rw [upd_ne h4.symm]; exact g2, ls, cs, m, t, g3, g4, g5, g6, g7, by rw [upd_ne h5.symm]; exact g8, rest⟩
theorem frz_slots {ρ : List SV} {σ : L2.St} {i : Nat} {p : Addr} {vs : List V} {xs : List D} (sl : Slots K S Hb H n ρ σ) (ei : ρ[i]? = some (.ol xs)) (es : σ[i]? = some (some (.ref p))) (h1 : H p = some (.lst vs)) (h2 : Hb p = none) (h3 : p ≠ S.a) (h4 : p ≠ S.l) (h5 : p ≠ S.c) (h6 : DnA K Hb vs xs) :
    Slots K S (upd Hb p (.lst vs)) H n (ρ.set i (.d (.lst xs))) σ where
  len := by rw [List.length_set]; exact sl.len
  ok := fun j s e => by
    have ex := Ex.new (o := .lst vs) h2
    by_cases hj : i = j
    · subst hj
      have hl : i < ρ.length := (List.getElem?_eq_some_iff.mp ei).1
      rw [List.getElem?_set_self hl] at e
      cases e
      exact ⟨_, es, .ref p, rfl, .lst (SqL.of upd_same) (h6.up ex)⟩
    · rw [List.getElem?_set_ne hj] at e
      obtain ⟨o, e1, e2⟩ := sl.ok j s e
      refine ⟨o, e1, ?_⟩
      cases s with
      | no => trivial
      | d x =>
        obtain ⟨v, e3, e4⟩ := e2
        exact ⟨v, e3, e4.up ex⟩
      | st => exact ⟨e2.1, frz_st h3 h4 h5 e2.2⟩
      | ol zs =>
        obtain ⟨q, ws, e3, e4, e5, e6, e7, e9, e8⟩ := e2
        have hqp : q ≠ p := fun z => by
          subst z
          exact sl.ap i j q xs zs hj ei e es (by rw [e1, e3])
        exact ⟨q, ws, e3, e4, by rw [upd_ne hqp]; exact e5, e6, e7, e9, e8.up ex⟩
      | me y C ms es2 =>
        obtain ⟨e3, dx, fs, e4, e5, e6, e7, e8, e9, e10⟩ := e2
        exact ⟨e3, dx, fs, e4, by rw [upd_ne (fun z => by rw [z, h1] at e4; cases e4)]; exact e5, e6, e7, e8, e9, e10.up ex⟩
      | od ks es2 =>
        obtain ⟨q, kvs, e3, e4, e5, e6, e7, e8, e9, e10⟩ := e2
        exact ⟨q, kvs, e3, e4, by rw [upd_ne (fun z => by rw [z, h1] at e4; cases e4)]; exact e5, e6, e7, e8, e9, e10.up ex⟩
      | ot ks es2 =>
        obtain ⟨q, kvs, e3, e4, e5, e6, e7, e8, e9, e10⟩ := e2
        exact ⟨q, kvs, e3, e4, by rw [upd_ne (fun z => by rw [z, h1] at e4; cases e4)]; exact e5, e6, e7, e8, e9, e10.up ex⟩
      | fv F =>
        obtain ⟨f, c, e3, e4, e5, e5b, rest⟩ := e2
        have hc : c ≠ p := fun z => by
          rw [z, h1] at e5
          exact codeO_no (o := .lst vs) (fun _ z => by cases z) (Option.some.inj e5)
        exact ⟨f, c, e3, ex _ _ e4, e5, (fun o z => by rw [upd_ne hc] at z; exact e5b o z), rest⟩
  ap := fun j k q ys zs hjk ej ek sj sk => by
    have f : ∀ {m : Nat} {u : List D}, (ρ.set i (.d (.lst xs)))[m]? = some (.ol u) → ρ[m]? = some (.ol u) := fun {m u} e => by
      by_cases hm : i = m
      · subst hm
        have hl : i < ρ.length := (List.getElem?_eq_some_iff.mp ei).1
        rw [List.getElem?_set_self hl] at e
        cases e
      · rw [List.getElem?_set_ne hm] at e
        exact e
    exact sl.ap j k q ys zs hjk (f ej) (f ek) sj sk
/-- from here on the list in slot i is frozen -/
def xsFrz (i : Nat) (G : DTS) : DTS := fun DD ρ n XP => slotO ρ i fun xs => G DD (ρ.set i (.d (.lst xs))) n XP
theorem rds_frz {i : Nat} {t : TS} {G : DTS} (h1 : RdS K T S E t G) : RdS K T S E t (xsFrz i G) := fun σ ρ Hb0 H0 n0 Hb H n DD XP D a sl h q x => by
  obtain ⟨xs, p, vs, e, es, e3, e4, e5, e6, e8, e7, h⟩ := sl.sl.own h
  have f0 : Fresh H0 p := sl.fr i _ p e rfl es
  have a' := a.freeze (o := .lst vs) f0 e4 (by rw [e3]; exact fun z => by cases z) (fun ps z => by rw [e3] at z; cases z) (fun c u z => by rw [e3] at z; exact codeO_no (o := .lst vs) (fun _ z => by cases z) (Option.some.inj z)) e5 e6 e8
  rw [upd_id e3] at a'
  refine h1 σ _ Hb0 H0 n0 _ H n DD XP D a' ⟨frz_slots sl.sl e es e3 e4 e5 e6 e8 e7, fun j s r ej eo sj => ?_⟩ h (q.up (Ex.new e4)) x
  by_cases hj : i = j
  · subst hj
    have hl : i < ρ.length := (List.getElem?_eq_some_iff.mp e).1
    rw [List.getElem?_set_self hl] at ej
    cases ej
    cases eo
  · rw [List.getElem?_set_ne hj] at ej
    exact sl.fr j s r ej eo sj
/-- a step from where the list at p counts as frozen, told from where it does not -/
theorem Stp.unview {p : Addr} {vs : List V} {Hb' H' : Hp} {n' : Nat} (h1 : H p = some (.lst vs)) (h2 : Hb p = none) (h3 : p ≠ S.a) (h4 : p ≠ S.l) (h5 : p ≠ S.c) (s : Stp K T S (upd Hb p (.lst vs)) H n Hb' H' n') :
    Stp K T S Hb H n (fun b => if b = p then none else Hb' b) H' n' where
  ex := fun b u e => by
    have hb : b ≠ p := fun z => by rw [z, h2] at e; cases e
    show (if b = p then none else Hb' b) = some u
    rw [if_neg hb]
    exact s.ex b u (by rw [upd_ne hb]; exact e)
  wd := by
    have g : ∀ {b : Addr} {o : HO}, (if b = p then none else Hb' b) = some o → Hb' b = some o := fun {b o} e => by
      by_cases hb : b = p
      · rw [if_pos hb] at e; cases e
      · rw [if_neg hb] at e; exact e
    refine ⟨fun b o e => s.wd.ex b o (g e), s.wd.tabs, fun q hq => ?_, s.wd.sa, s.wd.sl, s.wd.sc, fun b ps z => s.wd.nt b ps (g z)⟩
    show (if q.1 = p then none else Hb' q.1) = none
    by_cases hb : q.1 = p
    · rw [if_pos hb]
    · rw [if_neg hb]; exact s.wd.tb q hq
  st := fun h0 => by
    obtain ⟨g1, g2, ls, cs, m, t, g3, g4, g5, g6, g7, g8, rest⟩ := s.st (frz_st h3 h4 h5 h0)
    refine ⟨?_, ?_, ls, cs, m, t, g3, g4, g5, g6, g7, ?_, rest⟩
    · show (if S.a = p then none else Hb' S.a) = none
      rw [if_neg h3.symm]; exact g1
    · show (if S.l = p then none else Hb' S.l) = none
      rw [if_neg h4.symm]; exact g2
    · show (if S.c = p then none else Hb' S.c) = _
      rw [if_neg h5.symm]; exact g8
  own0 := fun q o e1 e2 e3 e4 e5 => by
    by_cases hq : q = p
    · subst hq
      rw [h1] at e1
      cases e1
      exact ⟨s.wd.ex _ _ (s.ex _ _ upd_same), .inl (if_pos rfl)⟩
    · obtain ⟨g1, g2⟩ := s.own0 q o e1 (by rw [upd_ne hq]; exact e2) e3 e4 e5
      rcases g2 with g2 | ⟨g2, c⟩
      · exact ⟨g1, .inl (by show (if q = p then none else Hb' q) = none; rw [if_neg hq]; exact g2)⟩
      · exact ⟨g1, .inr ⟨by show (if q = p then none else Hb' q) = some o; rw [if_neg hq]; exact g2, c⟩⟩
  dm := s.dm
theorem Dn.flat {v : V} {d : D} (h : Dn K Hb v d) (f : flatD d = true) : Dn K Hb1 v d := by
  cases h with
  | non => exact .non
  | bl b => exact .bl b
  | int i => exact .int i
  | str x => exact .str x
  | _ => cases f
def xtView (i : Nat) (F : DTT) : DTT := fun ρ n P _ => slotO ρ i fun xs => F (ρ.set i (.d (.lst xs))) n P xF
theorem rdt_view {i : Nat} {tt : TT} {F : DTT} (h1 : RdT K T S E tt F) : RdT K T S E tt (xtView i F) := fun σ ρ Hb H n P XP Q w sl h q x => by
  obtain ⟨xs, p, vs, e, es, e3, e4, e5, e6, e8, e7, h⟩ := sl.own h
  exact h1 σ _ _ H n _ xF _ (frz_world w e3) (frz_slots sl e es e3 e4 e5 e6 e8 e7) h (fun b n' Hb' H' s pp => q b n' _ H' (s.unview e3 e4 e5 e6 e8) pp) .none

/-! ### while -/
def xsWhile (F : DTT) (B : DTS) : DTS := fun DD ρ n XP => ∃ I : Nat → List SV → Nat → Prop, (∃ m, I m ρ n) ∧ ∀ m ρ n, I m ρ n →
  F ρ n (fun b n1 => match b with
    | true => B { DD with nx := fun ρ' n' => ∃ m', m' < m ∧ I m' ρ' n', ct := fun ρ' n' => ∃ m', m' < m ∧ I m' ρ' n', bk := DD.nx } ρ n1 XP
    | false => DD.nx ρ n1) XP
theorem rds_while {c : TT} {tb : TS} {F : DTT} {B : DTS} (hc : RdT K T S E c F) (hb : RdS K T S E tb B) : RdS K T S E (tWhile c tb) (xsWhile F B) := fun σ ρ Hb0 H0 n0 Hb H n DD XP D a sl h q x => by
  obtain ⟨I, ⟨m0, i0⟩, it⟩ := h
  refine ⟨fun m σ2 H2 => ∃ ρ2 n2 Hb2, Ex Hb Hb2 ∧ Stp K T S Hb0 H0 n0 Hb2 H2 n2 ∧ Sl0 K S H0 Hb2 H2 n2 ρ2 σ2 ∧ I m ρ2 n2, ⟨m0, ρ, n, Hb, Ex.refl _, a, sl, i0⟩, ?_⟩
  rintro m σ2 H2 ⟨ρ2, n2, Hb2, e2, s2, sl2, hI⟩
  refine hc σ2 ρ2 Hb2 H2 n2 _ XP _ s2.wd sl2.sl (it m ρ2 n2 hI) (fun b n3 Hb3 H3 s3 p3 => ?_) (x.step s2)
  cases b with
  | false => exact iteF (q.nx ρ2 σ2 n3 Hb3 H3 (e2.trans s3.ex) (s2.trans s3) (sl2.step s3) p3)
  | true =>
    have e3 := e2.trans s3.ex
    refine iteT ⟨fun σ' H' => ∃ m', m' < m ∧ ∃ ρ' n' Hb', Ex Hb Hb' ∧ Stp K T S Hb0 H0 n0 Hb' H' n' ∧ Sl0 K S H0 Hb' H' n' ρ' σ' ∧ I m' ρ' n', fun σ' H' ⟨m', h1, h2⟩ => ⟨m', h1, h2⟩, ?_⟩
    exact hb σ2 ρ2 Hb0 H0 n0 Hb3 H3 n3 _ XP _ (s2.trans s3) (sl2.step s3) p3 ⟨fun ρ4 σ4 n4 Hb4 H4 e4 s4 sl4 ⟨m', h1, h2⟩ => ⟨m', h1, ρ4, n4, Hb4, e3.trans e4, s4, sl4, h2⟩, q.rt, q.nx.up e3, fun ρ4 σ4 n4 Hb4 H4 e4 s4 sl4 ⟨m', h1, h2⟩ => ⟨m', h1, ρ4, n4, Hb4, e3.trans e4, s4, sl4, h2⟩⟩ x

/-! ### new lists -/
def xnNil : DTL := fun _ n P _ => P [] n
theorem rdn_nil : RdN K T S E (tLst tNil) xnNil := fun σ ρ Hb H n P XP Q w sl h q x => by
  refine ⟨Nat.zero_le _, fun a hp => ?_⟩
  exact q [] a [] n Hb (upd H a (.lst [])) (.newO w hp) (fresh_none hp) upd_same (free_of w.ex hp) .nil h
def xnLst (G : DTA) : DTL := fun ρ n P XP => G ρ n (fun ss n1 => ∃ ds, allD ss = some ds ∧ ds.length ≤ 100000 ∧ P ds n1) XP
theorem rdn_lst {ta : TA} {G : DTA} (h1 : RdA K T S E ta G) : RdN K T S E (tLst ta) (xnLst G) := fun σ ρ Hb H n P XP Q w sl h q x =>
  h1 σ ρ Hb H n _ XP _ w sl h (fun ss vs n1 Hb1 H1 s ha p => by
    obtain ⟨ds, e, hl, p⟩ := p
    have hd := ha.allD e
    refine ⟨sz_of (by rw [hd.len]; exact hl), fun a hp => ?_⟩
    exact q ds a vs n1 Hb1 _ (s.trans (.newO s.wd hp)) (s.dm a (fresh_none hp)) upd_same (free_of s.wd.ex hp) hd p) x
def xnList (F : DT) : DTL := fun ρ n P XP => F ρ n (fun d n1 => seqD d fun xs => P xs n1) XP
theorem rdn_list (h1 : DL.Rd K T S E te FE) : RdN K T S E (tCB (rListU K) (tCons te tNil)) (xnList FE) := fun σ ρ Hb H n P XP Q w sl h q x =>
  h1 σ ρ Hb H n _ XP _ w sl h (fun d v n1 Hb1 H1 s hd p => by
    cases hd with
    | @lst a vs ds g1 g2 => exact ⟨a, vs, rfl, .inl (ex_l s.wd.ex g1), fun l hp => q ds l vs n1 Hb1 _ (s.trans (.newO s.wd hp)) (s.dm l (fresh_none hp)) upd_same (free_of s.wd.ex hp) g2 p⟩
    | @tup a vs ds g1 g2 => exact ⟨a, vs, rfl, .inr (ex_t s.wd.ex g1), fun l hp => q ds l vs n1 Hb1 _ (s.trans (.newO s.wd hp)) (s.dm l (fresh_none hp)) upd_same (free_of s.wd.ex hp) g2 p⟩
    | _ => exact p.elim) x
/-- data, or a new list of one's own -/
def MOk (K : PySem.W.Frag) (H0 Hb H : Hp) : SV → V → Prop
  | .d d, v => Dn K Hb v d
  | .ol xs, v => ∃ p vs, v = .ref p ∧ Fresh H0 p ∧ H p = some (.lst vs) ∧ Hb p = none ∧ DnA K Hb vs xs
  | _, _ => False
abbrev DTM := List SV → Nat → (SV → Nat → Prop) → DX → Prop
def RdM (K : PySem.W.Frag) (T : Tb) (S : SA) (E : XK) (te : TE) (F : DTM) : Prop :=
  ∀ σ ρ Hb H n P XP (Q : VK), World T S Hb H → Slots K S Hb H n ρ σ → F ρ n P XP → (∀ s v n' Hb' H', Stp K T S Hb H n Hb' H' n' → MOk K H Hb' H' s v → P s n' → Q v H') → XOk K T S Hb H n XP E → te σ H Q
def xmD (F : DT) : DTM := fun ρ n P XP => F ρ n (fun d n1 => P (.d d) n1) XP
def xmN (F : DTL) : DTM := fun ρ n P XP => F ρ n (fun xs n1 => P (.ol xs) n1) XP
theorem rdm_d (h1 : DL.Rd K T S E te FE) : RdM K T S E te (xmD FE) := fun σ ρ Hb H n P XP Q w sl h q x =>
  h1 σ ρ Hb H n _ XP _ w sl h (fun d v n1 Hb1 H1 s hd p => q (.d d) v n1 Hb1 H1 s hd p) x
theorem rdm_n {F : DTL} (h1 : RdN K T S E te F) : RdM K T S E te (xmN F) := fun σ ρ Hb H n P XP Q w sl h q x =>
  h1 σ ρ Hb H n _ XP _ w sl h (fun xs p vs n1 Hb1 H1 s hp e1 e2 hd pp => q (.ol xs) _ n1 Hb1 H1 s ⟨p, vs, rfl, hp, e1, e2, hd⟩ pp) x
theorem MOk.step {H0 : Hp} {s : SV} {v : V} (m : MOk K H0 Hb H s v) (w0 : World T S Hb1 H0) (a : Stp K T S Hb H n Hb2 H2 n2) : MOk K H0 Hb2 H2 s v := by
  cases s with
  | d d => exact Dn.up a.ex m
  | ol xs =>
    obtain ⟨p, vs, rfl, hp, e1, e2, hd⟩ := m
    obtain ⟨m1, m2, m3⟩ := w0.nS hp
    obtain ⟨g1, g2⟩ := a.own p _ e1 e2 m1 m2 (fun ps z => by cases z)
    exact ⟨p, vs, rfl, hp, g1, g2, hd.up a.ex⟩
  | _ => exact m.elim
/-- a slot gets data or a new list -/
theorem Sl0.setM {Hb0 H0 Ha Hc : Hp} {n0 m : Nat} {ρ : List SV} {σ : L2.St} {i : Nat} {s : SV} {v : V} (a : Stp K T S Hb0 H0 n0 Hc Ha m) (sl : Sl0 K S H0 Hb H n ρ σ) (h : MOk K Ha Hb H s v) (ha : ∀ (j : Nat) (ys : List D) (p : Addr), ρ[j]? = some (.ol ys) → σ[j]? = some (some (.ref p)) → v = .ref p → isOwn s = true → False) :
    Sl0 K S H0 Hb H n (ρ.set i s) (σ.set i (some v)) := by
  cases s with
  | d d => exact sl.set h
  | ol xs =>
    obtain ⟨p, vs, rfl, hp, e1, e2, hd⟩ := h
    obtain ⟨m1, m2, m3⟩ := a.wd.nS hp
    refine ⟨sl.sl.setO e1 e2 m1 m2 m3 hd fun j ys ej sj => ha j ys p ej sj rfl rfl, fun j xs r ej eo sj => ?_⟩
    by_cases hj : i = j
    · subst hj
      have hl : i < ρ.length := by
        have := (List.getElem?_eq_some_iff.mp ej).1
        rwa [List.length_set] at this
      rw [List.getElem?_set_self (by rw [← sl.sl.len]; exact hl)] at sj
      have er : p = r := V.ref.inj (Option.some.inj (Option.some.inj sj))
      rw [← er]
      exact a.dm p hp
    · rw [List.getElem?_set_ne hj] at ej sj
      exact sl.fr j xs r ej eo sj
  | _ => exact h.elim
/-- nobody's list is the new one -/
theorem MOk.apart {Ha : Hp} {ρ : List SV} {σ : L2.St} {Hc : Hp} {m : Nat} {s : SV} {v : V} (sl : Slots K S Hc Ha m ρ σ) (h : MOk K Ha Hb H s v) : ∀ (j : Nat) (ys : List D) (p : Addr), ρ[j]? = some (.ol ys) → σ[j]? = some (some (.ref p)) → v = .ref p → isOwn s = true → False := fun j ys p ej sj ev eo => by
  cases s with
  | d d => cases eo
  | ol xs =>
    obtain ⟨r, vs, rfl, hp, e1, e2, hd⟩ := h
    cases ev
    obtain ⟨o, g1, q, ws, g2, g3, _⟩ := sl.ok j _ ej
    rw [g1, g2] at sj
    have er : q = p := V.ref.inj (Option.some.inj (Option.some.inj sj))
    rw [er] at g3
    exact absurd rfl (hp.ne g3 fun _ z => by cases z)
  | _ => exact h.elim
/-- a, b = e1, e2: data or new lists -/
def xsParM (i j : Nat) (F G : DTM) : DTS := fun DD ρ n XP => F ρ n (fun s n1 => G ρ n1 (fun t n2 => DD.nx ((ρ.set i s).set j t) n2) XP) XP
theorem rds_parM {i j : Nat} {te2 : TE} {F G : DTM} (h1 : RdM K T S E te F) (h2 : RdM K T S E te2 G) : RdS K T S E (tPar i j (tCons te (tCons te2 tNil))) (xsParM i j F G) := fun σ ρ Hb0 H0 n0 Hb H n DD XP D a sl h q x =>
  h1 σ ρ Hb H n _ XP _ a.wd sl.sl h (fun s v n1 Hb1 H1 s1 m1 p => h2 σ ρ Hb1 H1 n1 _ XP _ s1.wd (sl.step s1).sl p (fun t u n2 Hb2 H2 s2 m2 p2 => by
    have m1' := m1.step a.wd s2
    have sl2 := (sl.step s1).step s2
    refine ⟨v, u, rfl, q.nx _ _ n2 Hb2 H2 (s1.ex.trans s2.ex) ((a.trans s1).trans s2) (Sl0.setM (a.trans s1) (Sl0.setM a sl2 m1' (m1.apart sl.sl)) m2 fun k ys r ek sk ev eo => ?_) p2⟩
    -- the second list is not the first one
    by_cases hk : i = k
    · subst hk
      have hl : i < ρ.length := by
        have := (List.getElem?_eq_some_iff.mp ek).1
        rwa [List.length_set] at this
      rw [List.getElem?_set_self hl] at ek
      rw [List.getElem?_set_self (by rw [← sl.sl.len]; exact hl)] at sk
      cases ek
      obtain ⟨r', ws, e0, hp, e1, e2, hd⟩ := m1
      subst e0
      have er : r' = r := V.ref.inj (Option.some.inj (Option.some.inj sk))
      subst er
      cases t with
      | d d => cases eo
      | ol zs =>
        obtain ⟨r2, us, e0, hp2, _⟩ := m2
        rw [ev] at e0
        cases e0
        exact absurd rfl (hp2.ne e1 fun _ z => by cases z)
      | _ => exact m2.elim
    · rw [List.getElem?_set_ne hk] at ek sk
      exact m2.apart (sl.step s1).sl k ys r ek sk ev eo) (((x.step a).step s1))) (x.step a)

/-! ### pops -/
theorem DnA.erase : ∀ (m : Nat) {vs : List V} {ds : List D}, DnA K H vs ds → DnA K H (vs.eraseIdx m) (ds.eraseIdx m)
  | _, _, _, .nil => by simp; exact .nil
  | 0, _, _, .cons h1 h2 => by simpa using h2
  | m + 1, _, _, .cons h1 h2 => by simpa using DnA.cons h1 (DnA.erase m h2)
theorem pop_ix {m l : Nat} (h : m < l) : seqIndex? (m : Int) l = some m := by
  have h0 : (0 : Int) ≤ (m : Int) := Int.natCast_nonneg m
  have h1 : (m : Int) < (l : Int) := by omega
  rw [PySem.seqIndex_of h0 h1]
  simp
/-- ys.append(xs.pop(e)), both of one's own -/
def xsAppPop (i j : Nat) (F : DT) : DTS := fun DD ρ n XP => i ≠ j ∧ slotO ρ i fun ys => slotO ρ j fun xs => F ρ n (fun d n1 => match d with
  | .int k => ∃ (m : Nat) (y : D), k = (m : Int) ∧ m < 2 ^ 62 ∧ xs[m]? = some y ∧ ys.length < 100000 ∧ DD.nx ((ρ.set j (.ol (xs.eraseIdx m))).set i (.ol (ys ++ [y]))) n1
  | _ => False) XP
theorem rds_appPop {i j : Nat} (h1 : DL.Rd K T S E te FE) : RdS K T S E (tDrop (tBM K "list" rAppend (tVar i) (tCons (tBM K "list" rPopAt (tVar j) (tCons te tNil)) tNil))) (xsAppPop i j FE) := fun σ ρ Hb0 H0 n0 Hb H n DD XP D a sl h q x => by
  obtain ⟨hij, h⟩ := h
  obtain ⟨ys, r, ws, f, fs, f3, f4, f5, f6, f8, f7, h⟩ := sl.sl.own h
  obtain ⟨xs, p, vs, e, es, e3, e4, e5, e6, e8, e7, h⟩ := sl.sl.own h
  have hrp : r ≠ p := fun z => by
    subst z
    exact sl.sl.ap i j r ys xs hij f e fs es
  refine ⟨.ref r, fs, .inl ⟨rfl, ws, SqL.of f3⟩, ?_⟩
  refine ⟨.ref p, es, .inl ⟨rfl, vs, SqL.of e3⟩, ?_⟩
  refine h1 σ ρ Hb H n _ XP _ a.wd sl.sl h (fun d v n1 Hb1 H1 s hd pp => ?_) (x.step a)
  obtain ⟨g1, g2⟩ := s.own p _ e3 e4 e5 e6 (fun ps z => by cases z)
  obtain ⟨k1, k2⟩ := s.own r _ f3 f4 f5 f6 (fun ps z => by cases z)
  have h7 := e7.up s.ex
  have j7 := f7.up s.ex
  cases hd with
  | int k =>
    obtain ⟨m, y, rfl, hm, hy, hl, pp⟩ := pp
    obtain ⟨u, eu, hu⟩ := h7.get hy
    have hml : m < vs.length := (List.getElem?_eq_some_iff.mp eu).1
    refine ⟨p, vs, _, m, u, rfl, rfl, g1, by omega, by omega, pop_ix hml, eu, ?_⟩
    have z := own_stmt (us := vs.eraseIdx m) (ys := xs.eraseIdx m) (DD := { nx := fun ρ' n' => ρ' = ρ.set j (.ol (xs.eraseIdx m)) ∧ n' = n1, rt := DD.rt, bk := DD.bk, ct := DD.ct })
      (D := { D with nx := fun σ' H' => σ' = σ ∧ H' = upd H1 p (.lst (vs.eraseIdx m)) → rAppend (.ref r) [u] H' fun _ H2 => D.nx σ H2 }) (a.trans s) (sl.step s) ⟨fun ρ' σ' n' Hb' H' e' s' sl' p' e9 => ?_, q.rt, q.bk.up s.ex, q.ct.up s.ex⟩ e es g1 g2 e5 e6 e8 (DnA.erase m h7) ⟨rfl, rfl⟩ ⟨rfl, rfl⟩
    · exact z
    · obtain ⟨rfl, rfl⟩ := e9
      obtain ⟨rfl, rfl⟩ := p'
      have hk : upd H1 p (.lst (vs.eraseIdx m)) r = some (.lst ws) := by rw [upd_ne hrp]; exact k1
      have ei : (ρ.set j (.ol (xs.eraseIdx m)))[i]? = some (.ol ys) := by rw [List.getElem?_set_ne (Ne.symm hij)]; exact f
      have hbr : Hb' r = none := by
        obtain ⟨o, g1', r', ws', g2', g3', g4', _⟩ := sl'.sl.ok i _ ei
        rw [fs] at g1'
        cases g1'
        cases g2'
        exact g4'
      refine ⟨r, ws, u, rfl, rfl, hk, Evl.sz_lt (by rw [j7.len]; exact hl), ?_⟩
      exact own_stmt s' sl' (q.up (s.ex.trans e')) ei fs hk hbr f5 f6 f8 ((j7.up e').app (.one (hu.up e'))) pp
  | _ => exact pp.elim
/-- return xs, xs of one's own -/
theorem rds_retO {i : Nat} : RdS K T S E (tRet (tVar i)) (xsFrz i (xsRet (xVar i))) := rds_frz (rds_ret rd_var)
end
end DL

/-! enumerate of a tuple -/
namespace RZ
open PySem PySem.Spec PyProof.Rows L2
open AutoSeq1 (wpAny_loadPart')
set_option maxHeartbeats 1000000 in
theorem meets_enumT (l : Addr) (items : Array Value) (o : Obj) (hc : o.cls = .type "tuple") (hd : ∃ n, o.data = .seq items n) :
    Meets (Builtin.«enumerate.__new__» ⟨[.type "enumerate", .ref l], []⟩) (fun _ R s => s.heap.get? l = some o ∧
      R (.ok (.ret (.ref (s.heap.push { cls := .type "tuple_iterator", data := .fields #[.ref l, .int 0 0] }).objs.size)))
        { s with heap := (s.heap.push { cls := .type "tuple_iterator", data := .fields #[.ref l, .int 0 0] }).push { cls := .type "enumerate", data := .fields #[.none, .bool false, .ref s.heap.objs.size, rawInt 0, .none, .none] } }) :=
  .of_wp fun prog w A R s h => by
    obtain ⟨oc, dct, dt, sl⟩ := o
    obtain ⟨n, hd⟩ := hd
    dsimp only at hc hd
    subst hc hd
    obtain ⟨hp, g, d, tk, os⟩ := s
    obtain ⟨hl, h⟩ := h
    have hsub := sub_enumerate
    have hL : Heap.IsTuple (Shared.heap ⟨hp, g, d, tk, os⟩) l items := ⟨_, hl, rfl, n, rfl⟩
    wp_walk using wpAny_loadPart' hl
    refine wpAny_stack_any fun st => wpAny_pure ?_
    split
    · rename_i c _ _ _ _ _
      cases (c == Value.type "enumerate") <;> (wp_walk using wpAny_loadPart' hl, wpAny_pyIter_tuple hL; exact ⟨_, rfl, h⟩)
    · wp_walk using wpAny_loadPart' hl, wpAny_pyIter_tuple hL
      exact ⟨_, rfl, h⟩
section
variable {prog : Program} {w : World} {A : Around} {E : Value → Shared → Prop} {s : Shared}
theorem call_enumT {l : Addr} {items : Array Value} {Q : Value → Shared → Prop} (hL : s.heap.IsTuple l items)
    (h : ∀ h', IsEnum h' (s.heap.objs.size + 1) s.heap.objs.size 0 .none → h'.IsTupleIter s.heap.objs.size l 0 → h'.objs.size = s.heap.objs.size + 2 →
      (∀ b o, s.heap.get? b = some o → h'.get? b = some o) → Q (.ref (s.heap.objs.size + 1)) { s with heap := h' }) :
    wpAny (model prog w) A (call (.type "enumerate") [.ref l]) Q E s := by
  obtain ⟨o, hl, hc, hd⟩ := hL
  refine callType_new F.called_enumerate (by decide) (F.typeCall_enumerate_1 _) (F.newCall_enumerate_1 _) (fun obj => F.args_object_init_2 obj _) F.entry_enumerate_new
    (meets_enumT l items o hc hd) ⟨hl, ?_⟩
  have hz : (s.heap.push { cls := .type "tuple_iterator", data := .fields #[.ref l, .int 0 0] }).objs.size = s.heap.objs.size + 1 := Heap.size_push ..
  show _ ∧ _
  rw [hz]
  have he : IsEnum ((s.heap.push { cls := .type "tuple_iterator", data := .fields #[.ref l, .int 0 0] }).push
      { cls := .type "enumerate", data := .fields #[.none, .bool false, .ref s.heap.objs.size, rawInt 0, .none, .none] }) (s.heap.objs.size + 1) s.heap.objs.size 0 .none := by
    have z := Heap.get?_push_size (s.heap.push { cls := .type "tuple_iterator", data := .fields #[.ref l, .int 0 0] })
      (o := { cls := .type "enumerate", data := .fields #[.none, .bool false, .ref s.heap.objs.size, rawInt 0, .none, .none] }) rfl
    rw [hz] at z
    exact z
  exact ⟨⟨_, he, rfl⟩, h _ he ⟨_, Heap.get?_push_of_some _ (Heap.get?_push_size _ rfl), rfl, rfl⟩ (by rw [Heap.size_push, hz]) fun b o x => Heap.get?_push_of_some _ (Heap.get?_push_of_some _ x)⟩
end
/-- the tuple at a, each item in a new pair -/
def IteT (K : PySem.W.Frag) (a : Addr) : It :=
  ⟨fun i H => ∃ (xs : List V) (x : V), SqT K H a xs ∧ xs[i]? = some x, fun i H v H' => ∃ T x, v = .ref T ∧ H T = none ∧ H' = upd H T (.tup [.int (i : Nat), x]) ∧ ∀ xs, SqT K H a xs → xs[i]? = some x, fun i H => ∃ xs : List V, SqT K H a xs ∧ xs.length ≤ i⟩
theorem turn_enumT {P : Program} {w : World} {K : PySem.W.Frag} {elts : List Expr} {kk : Nat} {tpos : Pos} (a e it : Addr) :
    Turn P w K (.Tuple elts kk tpos) (IteT K a) [e, it] e (fun i h => (∃ old, IsEnum h e it ((i : Nat) : Int) old) ∧ h.IsTupleIter it a i ∧ e ≠ it ∧ e ≠ a ∧ a ≠ it) where
  mem := by simp
  obj := fun i h st b hb => by
    obtain ⟨⟨old, he⟩, ⟨o, ho, hc, hd⟩, _⟩ := st
    rcases List.mem_cons.mp hb with z | hb
    · rw [z]; exact ⟨_, he, fun v q => nomatch q⟩
    · rw [List.mem_singleton.mp hb]; exact ⟨o, ho, fun v q => by rw [hd] at q; cases q⟩
  keep := fun i h h' st k => let ⟨⟨old, he⟩, hi, hne⟩ := st; ⟨⟨old, k e (by simp) _ he⟩, hi.at fun o q => k it (by simp) o q, hne⟩
  item := by
    intro X hP hw hK hc i pins s σ H E I hf st hg
    subst hP hw hK
    obtain ⟨⟨old, he⟩, hit, hne, hea, hai⟩ := st
    obtain ⟨xs, x, hq, hx⟩ := hg
    obtain ⟨its, rv, p, hz⟩ := I.tuple hq
    obtain ⟨u, hu, ru⟩ := rv.get hx
    have hu' : its.toArray[i]? = some u := by simpa using hu
    have hel : e < s.heap.objs.size := Heap.lt_size he
    have hil : it < s.heap.objs.size := by obtain ⟨_, q, _⟩ := hit; exact Heap.lt_size q
    have hlt : i < its.toArray.size := (Array.getElem?_eq_some_iff.mp hu').1
    have hd : X.A.in1.handled = none := I.ok.hd hc
    refine wpAny_pyNext_enum_itemC (A := X.A) (Draws.tuple (prog := X.prog) (w := X.w) (A := X.A.in1) hd it a hai its.toArray) he ⟨hit, p⟩ hlt hne (by simp [hne, hea]) fun u' h' tk hP ho hit' hT hsz hk => ?_
    have eu : u' = u := by
      have z : its.toArray[i]? = some u' := hP
      rw [hu'] at z
      exact (Option.some.inj z).symm
    subst eu
    refine ⟨_, rfl, wpAny_letOwnedTupleGo_enum (s := { s with heap := h', toks := tk + 1 }) ho fun h'' he' sb => ?_⟩
    have hT2 : h''.get? s.heap.objs.size = some { cls := .type "tuple", data := .seq #[.int i tk, u'] } := (sb.2 _ (Nat.ne_of_gt hel)).trans hT
    have new : ObjOk X.prog X.w (upd H s.heap.objs.size (.tup [.int (i : Nat), x])) h'' s.heap.objs.size (.tup [.int (i : Nat), x]) :=
      ⟨by show 2 ≤ sizeLine; decide, [.int i tk, u'], .cons ⟨_, rfl⟩ (.cons ru .nil), ⟨_, hT2, rfl, _, rfl⟩⟩
    have I1 : Inv X pins σ (upd H s.heap.objs.size (.tup [.int (i : Nat), x])) { s with heap := h'', toks := tk + 1 } :=
      I.turnedNew (ch := [e, it]) (fun b ob hb q => (sb.2 b (fun z => hb (by simp [z]))).trans (hk b ob (fun z => hb (by simp [z])) (fun z => hb (by simp [z])) q)) hf (Nat.le_refl _) new
    refine ⟨.ref s.heap.objs.size, _, I1, rfl, ⟨_, x, rfl, I.hok.fresh (Nat.le_refl _), rfl, fun ys hy => by rw [I.tuple_inj hy hq]; exact hx⟩, ⟨⟨u', ?_⟩, hit'.1.at fun o q => (sb.2 it (Ne.symm hne)).trans q, hne, hea, hai⟩, fun b hb => ?_⟩
    · have e1 : ((i + 1 : Nat) : Int) = (i : Int) + 1 := by omega
      rw [e1]; exact he'
    · have hb' : b < s.heap.objs.size := by
        rcases List.mem_cons.mp hb with z | hb
        · rw [z]; exact hel
        · rw [List.mem_singleton.mp hb]; exact hil
      rw [upd_ne (Nat.ne_of_lt hb')]
      exact (hf b hb).1
  done := by
    intro X hP hw hK hc i pins s σ H E I hf st hg
    subst hP hw hK
    obtain ⟨⟨old, he⟩, hit, hne, hea, hai⟩ := st
    obtain ⟨xs, hq, hx⟩ := hg
    obtain ⟨its, rv, p, hz⟩ := I.tuple hq
    obtain ⟨f0, f1, f2, f3, f4, f5⟩ := hf it (by simp)
    have hl := rv.length
    have hT : s.TypeIs (.ref e) "enumerate" := ⟨_, he, rfl⟩
    have hd : X.A.handled = none := I.ok.hd hc
    unfold pyNext
    refine wpAny_bind (wpAny_attempt (wpAny_callSpecial?_slot (name := Str.ofString "__next__") hT F.slot_enumerate_next
      (wpAny_call_entry F.slot_enumerate_next hT F.entry_enumerate_next ?_ (F.args_enumerate_next_1 _))))
    show wpAny _ _ (field (.ref e) 2 >>= _) _ _ _
    refine wpAny_bind (wpAny_field he rfl (x := .ref it) rfl ?_)
    show wpAny _ _ (Builtin.SmallTypes.nextOf (.ref it) >>= _) _ _ _
    refine wpAny_bind (nextOf_tuple_end hd hit p (by simp; omega) fun h' ee hs he2 => ?_)
    obtain ⟨o, ho, hcl⟩ := he2
    refine wpAny_bind (wpAny_isInstance (T := "StopIteration") (b := true) ⟨o, ho, hcl⟩ isSubtype_stop ?_)
    exact wpAny_pure ⟨rfl, I.turned (t' := s.toks) (fun b o hb q => hs b o hb q) f0 f1 f3 f4 f5⟩
  self := fun A i s Q E st h => let ⟨⟨_, he⟩, _⟩ := st; wpAny_pyIter_enum he h
def iEnumA (K : PySem.W.Frag) (ta : TA) : TI := fun σ H R => ta σ H fun vs H1 => ∃ a xs, vs = [.ref a] ∧ ((SqL K H1 a xs ∧ R (Ite K a) H1) ∨ (SqT K H1 a xs ∧ R (IteT K a) H1))
theorem pi_enumA {X : Cx} {e : Expr} {ta : TA} {p pos tpos : Pos} {elts : List Expr} {kk : Nat} (hg : Gl X "enumerate") (hm : X.mg "enumerate" = none) (ha : PA X [e] ta) (hs : starEach [e] X.env = [(false, eval e X.env)] := by rfl) :
    PI X (.Tuple elts kk tpos) (.Call (.Name "enumerate" p) [e] [] pos) (iEnumA X.K ta) := by
  refine ⟨fun pins s σ H R I h => ?_⟩
  refine Call_ (ld_blt I hg hm boot_enumerate (PyProof.Rows.callWith_type1 (thn (ha.run pos pins s σ H _ I h) fun us s1 ⟨vs, H1, I1, r1, q1⟩ => ?_) hs rfl))
  obtain ⟨a, xs, ex, q1⟩ := q1
  subst ex
  cases r1 with
  | cons r rr =>
    cases rr
    cases r
    have fp : ∀ b ∈ [s1.heap.objs.size + 1, s1.heap.objs.size], FpOk X pins H1 b := fun b hb => by
      have hle : s1.heap.objs.size ≤ b := by
        rcases List.mem_cons.mp hb with z | hb
        · rw [z]; exact Nat.le_add_right _ _
        · rw [List.mem_singleton.mp hb]; exact Nat.le_refl _
      exact I1.fpOk hle (I1.hok.fresh hle)
    rcases q1 with ⟨hq, q⟩ | ⟨hq, q⟩
    · obtain ⟨its, rv, p', hz⟩ := I1.list hq
      refine call_enumerate_list p'.isList fun h' he hit hsz hk => wpAny_pyIter_enum he ?_
      have I2 : Inv X pins σ H1 { s1 with heap := h' } := I1.kept (t' := s1.toks) hk
      exact ⟨s1.heap.objs.size + 1, [s1.heap.objs.size + 1, s1.heap.objs.size], _, _, H1, rfl, I2, turn_enum a (s1.heap.objs.size + 1) s1.heap.objs.size, ⟨⟨.none, he⟩, hit, Nat.succ_ne_self _⟩, fp, q⟩
    · obtain ⟨its, rv, p', hz⟩ := I1.tuple hq
      obtain ⟨o, ho, _⟩ := id p'
      have hal : a < s1.heap.objs.size := Heap.lt_size ho
      refine call_enumT (show s1.heap.IsTuple a its.toArray from p') fun h' he hit hsz hk => wpAny_pyIter_enum he ?_
      have I2 : Inv X pins σ H1 { s1 with heap := h' } := I1.kept (t' := s1.toks) hk
      exact ⟨s1.heap.objs.size + 1, [s1.heap.objs.size + 1, s1.heap.objs.size], _, _, H1, rfl, I2, turn_enumT a (s1.heap.objs.size + 1) s1.heap.objs.size, ⟨⟨.none, he⟩, hit, Nat.succ_ne_self _, Nat.ne_of_gt (Nat.lt_succ_of_lt hal), Nat.ne_of_lt hal⟩, fp, q⟩
end RZ
namespace DL
open L2 PySem PySem.Spec PyProof.Rows
open Evl (Ex ex_l ex_t sz_of)
section
variable {K : PySem.W.Frag} {T : Tb} {S : SA} {E : XK} {Hb H Hb1 H1 : Hp} {n n1 : Nat} {te : TE} {FE : DT}
def enumD (k : Nat) : List D → List D
  | [] => []
  | x :: xs => .tup [.int (k : Nat), x] :: enumD (k + 1) xs
theorem enumD_len : ∀ {xs : List D} {k : Nat}, (enumD k xs).length = xs.length
  | [], _ => rfl
  | _ :: xs, k => by
    show (enumD (k + 1) xs).length + 1 = _
    rw [enumD_len] <;> rfl
theorem enumD_get : ∀ {xs : List D} {k i : Nat}, (enumD k xs)[i]? = (xs[i]?).map fun x => D.tup [.int ((k + i : Nat) : Int), x]
  | [], _, _ => by simp [enumD]
  | x :: xs, k, 0 => by simp [enumD]
  | x :: xs, k, i + 1 => by
    show (enumD (k + 1) xs)[i]? = _
    rw [enumD_get]
    have e : k + 1 + i = k + (i + 1) := by omega
    rw [e]
    rfl
theorem src_enumL {a : Addr} {xs : List V} {ds : List D} (h : SqL K Hb a xs) (hd : DnA K Hb xs ds) : SrcOk K (Ite K a) Hb (enumD 0 ds) := fun Hb1 H1 i e1 e2 => by
  have h1 := ex_l e2 (ex_l e1 h)
  refine ⟨fun hi => ⟨xs, h1, by rw [enumD_len] at hi; rw [hd.len]; exact hi⟩, fun d e => ?_⟩
  rw [enumD_get] at e
  obtain ⟨x, ex, rfl⟩ := Option.map_eq_some_iff.mp e
  obtain ⟨v, ev, hv⟩ := hd.get ex
  refine ⟨⟨xs, v, h1, ev⟩, fun z H' q => ?_⟩
  obtain ⟨p, x', rfl, hp, rfl, f1⟩ := q
  have z1 := f1 xs h1
  rw [ev] at z1
  cases z1
  have ex := Ex.new (o := .tup [.int (i : Nat), v]) (free_of e2 hp)
  refine .inr ⟨p, _, hp, rfl, (fun _ z => by cases z), .tup (SqT.of upd_same) (.cons ?_ (.cons ((hv.up e1).up ex) .nil))⟩
  rw [Nat.zero_add]
  exact .int _
theorem src_enumT {a : Addr} {xs : List V} {ds : List D} (h : SqT K Hb a xs) (hd : DnA K Hb xs ds) : SrcOk K (RZ.IteT K a) Hb (enumD 0 ds) := fun Hb1 H1 i e1 e2 => by
  have h1 := ex_t e2 (ex_t e1 h)
  refine ⟨fun hi => ⟨xs, h1, by rw [enumD_len] at hi; rw [hd.len]; exact hi⟩, fun d e => ?_⟩
  rw [enumD_get] at e
  obtain ⟨x, ex, rfl⟩ := Option.map_eq_some_iff.mp e
  obtain ⟨v, ev, hv⟩ := hd.get ex
  refine ⟨⟨xs, v, h1, ev⟩, fun z H' q => ?_⟩
  obtain ⟨p, x', rfl, hp, rfl, f1⟩ := q
  have z1 := f1 xs h1
  rw [ev] at z1
  cases z1
  have ex := Ex.new (o := .tup [.int (i : Nat), v]) (free_of e2 hp)
  refine .inr ⟨p, _, hp, rfl, (fun _ z => by cases z), .tup (SqT.of upd_same) (.cons ?_ (.cons ((hv.up e1).up ex) .nil))⟩
  rw [Nat.zero_add]
  exact .int _
def xiEnum (G : DTA) : DTI := fun ρ n P XP => G ρ n (fun ss n1 => match ss with
  | [.d (.lst xs)] => P (enumD 0 xs) n1
  | [.d (.tup xs)] => P (enumD 0 xs) n1
  | _ => False) XP
theorem rdi_enum {ta : TA} {GA : DTA} (h1 : RdA K T S E ta GA) : RdI K T S E (RZ.iEnumA K ta) (xiEnum GA) := fun σ ρ Hb H n P XP R w sl h q x =>
  h1 σ ρ Hb H n _ XP _ w sl h (fun ss vs n1 Hb1 H1 s ha p => by
    match ss, ha, p with
    | [.d (.lst xs)], ha, p =>
      obtain ⟨v, rfl, hv⟩ := Args.one (ss := []) ha
      cases hv with
      | @lst a as ds g1 g2 => exact ⟨a, as, rfl, .inl ⟨ex_l s.wd.ex g1, q _ n1 Hb1 H1 _ s (src_enumL g1 g2) p⟩⟩
    | [.d (.tup xs)], ha, p =>
      obtain ⟨v, rfl, hv⟩ := Args.one (ss := []) ha
      cases hv with
      | @tup a as ds g1 g2 => exact ⟨a, as, rfl, .inr ⟨ex_t s.wd.ex g1, q _ n1 Hb1 H1 _ s (src_enumT g1 g2) p⟩⟩) x

/-! ### three targets -/
def xgThree (i j k : Nat) : DTG := fun d ρ P => match d with
  | .tup [a, b, c] => P (((ρ.set i (.d a)).set j (.d b)).set k (.d c))
  | _ => False
theorem rdg_three {i j k : Nat} {vs : List Nat} (h : i ∈ vs) (h' : j ∈ vs) (h'' : k ∈ vs) : RdG K T S vs (gTup K 3 (gCons (gName i) (gCons (gName j) (gCons (gName k) gNil)))) (xgThree i j k) := fun v d σ ρ H0 Hb H n P Q w sl hd p q => by
  cases hd with
  | @tup a xs ds h1 h2 =>
    cases h2 with
    | nil => exact p.elim
    | @cons v1 vs1 d1 ds1 g1 r1 =>
      cases r1 with
      | nil => exact p.elim
      | @cons v2 vs2 d2 ds2 g2 r2 =>
        cases r2 with
        | nil => exact p.elim
        | @cons v3 vs3 d3 ds3 g3 r3 =>
          cases r3 with
          | cons _ _ => exact p.elim
          | nil => exact ⟨a, [v1, v2, v3], rfl, ex_t w.ex h1, rfl, v1, [v2, v3], rfl, v2, [v3], rfl, v3, [], rfl, rfl, q _ _ (((sl.set g1).set g2).set g3) (by rw [wipe_set h'', wipe_set h', wipe_set h]) p⟩
  | _ => exact p.elim
end
end DL

/-! dicts of one's own -/
namespace DL
open L2 PySem PySem.Spec PyProof.Rows
open Evl (Ex ex_l ex_t sz_of)
def isOd : SV → Bool
  | .od _ _ => true
  | .ot _ _ => true
  | _ => false
def noOd : List SV → Bool
  | [] => true
  | s :: ss => !isOd s && noOd ss
theorem noOd_get : ∀ {ρ : List SV} {i : Nat} {s : SV}, noOd ρ = true → ρ[i]? = some s → isOd s = false
  | [], i, s, _, e => by simp at e
  | t :: ss, 0, s, h, e => by
    simp at e
    subst e
    have z : (!isOd t && noOd ss) = true := h
    cases h1 : isOd t with
    | false => rfl
    | true => rw [h1] at z; cases z
  | t :: ss, i + 1, s, h, e => by
    have z : (!isOd t && noOd ss) = true := h
    exact noOd_get (ρ := ss) (i := i) (Bool.and_eq_true_iff.mp z).2 (by simpa using e)
section
variable {K : PySem.W.Frag} {T : Tb} {S : SA} {E : XK} {Hb H Hb1 H1 : Hp} {n n1 : Nat} {te : TE} {FE : DT}
/-- what is one's own is rewritten -/
theorem Stp.put {p : Addr} {o u : HO} (s : Stp K T S Hb H n Hb1 H1 n1) (hp : Fresh H p) (h2 : Hb1 p = none) (h1 : H1 p = some o) (nt : ∀ ps, o ≠ .tbl ps) (nx : ∀ φ, o ≠ .ext φ) (nu : ∀ ps, u ≠ .tbl ps) (na : p ≠ S.a) (nl : p ≠ S.l) : Stp K T S Hb H n Hb1 (upd H1 p u) n1 := by
  refine ⟨s.ex, s.wd.put h1 h2 nt nx nu, fun h0 => ?_, fun b v e1 e2 e3 e4 e5 => ?_, fun b e => s.dm b (dm_upd nu b e)⟩
  · obtain ⟨g1, g2, ls, cs, m, t, g3, g4, g5, g6, g7, g8, rest⟩ := s.st h0
    exact ⟨g1, g2, ls, cs, m, t, g3, g4, g5, by rw [upd_ne na.symm]; exact g6, by rw [upd_ne nl.symm]; exact g7, g8, rest⟩
  · rw [upd_ne (hp.ne e1 e5)]
    exact s.own0 b v e1 e2 e3 e4 e5
def slotE (ρ : List SV) (i : Nat) (k : List Key → List D → Prop) : Prop := match ρ[i]? with
  | some (.od ks ds) => k ks ds
  | _ => False
theorem slotE_zero {ks : List Key} {ds : List D} {ρ : List SV} {k : List Key → List D → Prop} : slotE (.od ks ds :: ρ) 0 k = k ks ds := rfl
theorem slotE_succ {s : SV} {ρ : List SV} {i : Nat} {k : List Key → List D → Prop} : slotE (s :: ρ) (i + 1) k = slotE ρ i k := rfl
theorem Slots.ownE {ρ : List SV} {σ : L2.St} {i : Nat} {k : List Key → List D → Prop} (sl : Slots K S Hb H n ρ σ) (h : slotE ρ i k) : ∃ ks ds p kvs, ρ[i]? = some (.od ks ds) ∧ σ[i]? = some (some (.ref p)) ∧ H p = some (.dK kvs) ∧ Hb p = none ∧ p ≠ S.a ∧ p ≠ S.l ∧ p ≠ S.c ∧ kvs.map (·.1) = ks ∧ DnA K Hb (kvs.map (·.2)) ds ∧ k ks ds := by
  unfold slotE at h
  cases e : ρ[i]? with
  | none => rw [e] at h; exact h.elim
  | some s =>
    rw [e] at h
    cases s with
    | od ks ds =>
      obtain ⟨o, e1, p, kvs, e2, e3, e4, e5, e6, e8, e7, e9⟩ := sl.ok i _ e
      exact ⟨ks, ds, p, kvs, rfl, by rw [e1, e2], e3, e4, e5, e6, e8, e7, e9, h⟩
    | ot _ _ => exact h.elim
    | _ => exact h.elim
/-- a slot that holds no list gets what holds -/
theorem Slots.setX {ρ : List SV} {σ : L2.St} {i : Nat} {s : SV} {o : Option V} (sl : Slots K S Hb H n ρ σ) (h : SlotOk K S Hb H n s o) (hs : ∀ xs, s ≠ .ol xs) : Slots K S Hb H n (ρ.set i s) (σ.set i o) where
  len := by rw [List.length_set, List.length_set]; exact sl.len
  ok := fun j t e => by
    by_cases hj : i = j
    · subst hj
      have hl : i < ρ.length := by
        have := (List.getElem?_eq_some_iff.mp e).1
        rwa [List.length_set] at this
      rw [List.getElem?_set_self hl] at e
      cases e
      exact ⟨o, List.getElem?_set_self (by rw [← sl.len]; exact hl), h⟩
    · rw [List.getElem?_set_ne hj] at e
      obtain ⟨o, e1, e2⟩ := sl.ok j t e
      exact ⟨o, by rw [List.getElem?_set_ne hj]; exact e1, e2⟩
  ap := fun j k p xs ys hjk ej ek sj sk => by
    by_cases h1 : i = j
    · subst h1
      have hl : i < ρ.length := by
        have := (List.getElem?_eq_some_iff.mp ej).1
        rwa [List.length_set] at this
      rw [List.getElem?_set_self hl] at ej
      exact hs _ (Option.some.inj ej)
    · by_cases h2 : i = k
      · subst h2
        have hl : i < ρ.length := by
          have := (List.getElem?_eq_some_iff.mp ek).1
          rwa [List.length_set] at this
        rw [List.getElem?_set_self hl] at ek
        exact hs _ (Option.some.inj ek)
      · rw [List.getElem?_set_ne h1] at ej sj
        rw [List.getElem?_set_ne h2] at ek sk
        exact sl.ap j k p xs ys hjk ej ek sj sk
/-- the rest of the frame where the dict at p is rewritten -/
theorem Slots.putE {ρ : List SV} {σ : L2.St} {p : Addr} {kvs us : List (Key × V)} (sl : Slots K S Hb H n ρ σ) (h1 : H p = some (.dK kvs)) (h3 : p ≠ S.a) (h4 : p ≠ S.l) (no : noOd ρ = true) : Slots K S Hb (upd H p (.dK us)) n ρ σ := by
  have keep : ∀ {b : Addr} {o : HO}, H b = some o → b ≠ p → upd H p (.dK us) b = some o := fun e hb => by rw [upd_ne hb]; exact e
  refine ⟨sl.len, fun j s e => ?_, sl.ap⟩
  obtain ⟨o, e1, e2⟩ := sl.ok j s e
  refine ⟨o, e1, ?_⟩
  cases s with
  | no => trivial
  | d x => exact e2
  | st =>
    obtain ⟨e3, st⟩ := e2
    obtain ⟨g1, g2, ls, cs, m, t, g3, g4, g5, g6, g7, g8, rest⟩ := st
    exact ⟨e3, g1, g2, ls, cs, m, t, g3, g4, g5, keep g6 h3.symm, keep g7 h4.symm, g8, rest⟩
  | ol zs =>
    obtain ⟨q, ws, e3, e4, rest⟩ := e2
    exact ⟨q, ws, e3, keep e4 (fun z => by rw [z, h1] at e4; cases e4), rest⟩
  | me y C ms es2 =>
    obtain ⟨e3, dx, fs, e4, rest⟩ := e2
    exact ⟨e3, dx, fs, keep e4 (fun z => by rw [z, h1] at e4; cases e4), rest⟩
  | od ks es2 =>
    have z := noOd_get no e
    cases z
  | ot ks es2 =>
    have z := noOd_get no e
    cases z
  | fv F =>
    obtain ⟨f, c, e3, e4, e5, rest⟩ := e2
    exact ⟨f, c, e3, e4, keep e5 (fun z => by rw [z, h1] at e5; exact codeO_no (o := .dK kvs) (fun _ z => by cases z) (Option.some.inj e5)), rest⟩
theorem set_set {α : Type} {ρ : List α} {i : Nat} {a b : α} : (ρ.set i a).set i b = ρ.set i b := List.set_set ..
theorem set_get {α : Type} : ∀ {ρ : List α} {i : Nat} {a : α}, ρ[i]? = some a → ρ.set i a = ρ
  | [], _, _, _ => rfl
  | x :: ρ, 0, a, h => by
    simp at h
    rw [h]
    rfl
  | x :: ρ, i + 1, a, h => by
    show x :: ρ.set i a = _
    rw [set_get (by simpa using h)]
theorem OwF.setF {H0 : Hp} {ρ : List SV} {σ : L2.St} {i : Nat} {s : SV} {p : Addr} (f : OwF H0 ρ σ) (h : Fresh H0 p) (hl : ρ.length = σ.length) : OwF H0 (ρ.set i s) (σ.set i (some (.ref p))) := fun j xs r ej eo sj => by
  by_cases hj : i = j
  · subst hj
    have hl2 : i < ρ.length := by
      have := (List.getElem?_eq_some_iff.mp ej).1
      rwa [List.length_set] at this
    rw [List.getElem?_set_self (by rw [← hl]; exact hl2)] at sj
    have er : p = r := V.ref.inj (Option.some.inj (Option.some.inj sj))
    rw [← er]
    exact h
  · rw [List.getElem?_set_ne hj] at ej sj
    exact f j xs r ej eo sj
/-- x = {..}, a dict of one's own -/
def xsSetD (i : Nat) (prs : List (DT × DT)) : DTS := fun DD ρ n XP => noOd (ρ.set i .no) = true ∧ xPairs prs ρ n (fun ks ds n1 => ks.Nodup ∧ ks.length ≤ 15 ∧ DD.nx (ρ.set i (.od ks ds)) n1) XP
theorem rds_setD {i : Nat} {trs : List (TE × TE)} {prs : List (DT × DT)} (h : RdP K T S E trs prs) : RdS K T S E (tAsg (tDisp trs) (gName i)) (xsSetD i prs) := fun σ ρ Hb0 H0 n0 Hb H n DD XP D a sl hp q x p hn => by
  obtain ⟨no, hp⟩ := hp
  have w := a.wd
  have s0 : Stp K T S Hb H n Hb (upd H p (.dK [])) n := .newO w hn
  obtain ⟨n1, n2, n3⟩ := w.nS (fresh_none hn)
  refine rd_pairs h s0.wd ((sl.sl).step s0) hp (fun kvs ks ds n' Hb' H' s ek hd p1 => ?_) ((x.step a).step s0)
  obtain ⟨hnd, hl, p1⟩ := p1
  obtain ⟨g1, g2⟩ := s.own p _ upd_same (free_of w.ex hn) n1 n2 (fun ps z => by cases z)
  have el : kvs.length = ks.length := by rw [← ek, List.length_map]
  refine ⟨g1, kvs, rfl, by omega, ?_⟩
  have em : mergeK [] kvs = kvs := by
    rw [merge_nodup (by rw [List.nil_append, ek]; exact hnd)]
    rfl
  rw [em]
  have s2 := s0.trans s
  have s3 := s2.put (u := .dK kvs) (fresh_none hn) g2 g1 (fun _ z => by cases z) (fun _ z => by cases z) (fun _ z => by cases z) n1 n2
  have sl2 := sl.step s2
  have f0 : Fresh H0 p := a.dm p (fresh_none hn)
  have b1 : Slots K S Hb' H' n' (ρ.set i .no) (σ.set i (some (.ref p))) := sl2.sl.forget
  have b2 := b1.putE (us := kvs) g1 n1 n2 no
  have b3 := b2.setX (i := i) (s := .od ks ds) (o := some (.ref p)) ⟨p, kvs, rfl, upd_same, g2, n1, n2, n3, ek, hd⟩ (fun _ z => by cases z)
  rw [set_set, set_set] at b3
  exact q.nx _ _ n' Hb' _ s3.ex (a.trans s3) ⟨b3, sl2.fr.setF f0 sl.sl.len⟩ p1
/-- return x, x a dict of one's own -/
def xsRetE (i : Nat) : DTS := fun DD ρ n _ => slotE ρ i fun ks ds => DD.rt (.dic ks ds) n
theorem rds_retE {i : Nat} : RdS K T S E (tRet (tVar i)) (xsRetE i) := fun σ ρ Hb0 H0 n0 Hb H n DD XP D a sl h q x => by
  obtain ⟨ks, ds, p, kvs, e, es, e3, e4, e5, e6, e8, e7, e9, h⟩ := sl.sl.ownE h
  have f0 : Fresh H0 p := sl.fr i _ p e rfl es
  have a' := a.freeze (o := .dK kvs) f0 e4 (by rw [e3]; exact fun z => by cases z) (fun ps z => by rw [e3] at z; cases z) (fun c u z => by rw [e3] at z; exact codeO_no (o := .dK kvs) (fun _ z => by cases z) (Option.some.inj z)) e5 e6 e8
  rw [upd_id e3] at a'
  exact ⟨.ref p, es, q.rt _ _ n _ H a' (.dic upd_same e7 (e9.up (Ex.new e4))) h⟩
end
end DL

/-! exceptions with one attribute: raised, asked -/
namespace DL
open L2 PySem PySem.Spec PyProof.Rows
open Evl (Ex ex_l ex_t sz_of)
def spX1 (K : PySem.W.Frag) (C : Addr) (f : Str) : Sp := fun vs H Q _ => ∃ a v, vs = [.ref a, v] ∧ OexC K C ∧ PySem.W.findIn K (.ref C) f = some none ∧ H a = some (exo a C none) ∧
  ∀ dx, H dx = none → dx ≠ a → Q .non (upd (upd H dx (exd dx [(f, v)])) a (exo a C (some dx)))
section
variable {P : Program} {w : PySem.World} {K : PySem.W.Frag} {T : Tb} {mg : Str → Option Value} {base : Heap}
/-- an __init__ that stores one attribute -/
theorem init_x1 {qual f a b : Str} {st : Stmt} {C g : Addr} {fd : FuncData} {p1 p2 p3 p4 : Pos} (F : Fun K "__init__" qual st g fd) (Sc : FnScope [a, b] [a, b] (defScope st)) (la : (defScope st).names.lookup a = some .local) (lb : (defScope st).names.lookup b = some .local) (hda : (a == ("__debug__" : Str)) = false) (hca : (a == ("__classdict__" : Str)) = false) (hdb : (b == ("__debug__" : Str)) = false) (hcb : (b == ("__classdict__" : Str)) = false) (hb : defBody st = [.Assign [.Attribute (.Name a p1) f p2] (.Name b p3) p4]) : FnOk P w K mg base CX0 1 g fd [a, b] (spX1 K C f) := by
  refine F.ok Sc (fun vs H Q E h => ?_) (fun cdv A outer s H vs Q E hr h => ?_)
  · obtain ⟨y, v, rfl, _⟩ := h
    rfl
  · obtain ⟨y, v, rfl, hO, hf, e, q⟩ := h
    rw [hb]
    refine ⟨_, pss_one (ps_ost (pe_var (i := 0) rfl (.inl la) hda hca) (pe_var (i := 1) rfl (.inl lb) hdb hcb)), ?_⟩
    exact ⟨v, rfl, .ref y, rfl, y, C, rfl, hO, hf, .inl ⟨e, fun dx h1 h2 => q dx h1 h2⟩⟩
end
section
variable {K : PySem.W.Frag} {T : Tb} {S : SA} {E : XK} {Hb H Hb1 H1 : Hp} {n n1 : Nat} {te : TE} {FE : DT}
/-- raise C(e) -/
def xsRaise1 (C : Addr) (f : Str) (G : DTA) : DTS := fun _ ρ n XP => G ρ n (fun ss n1 => ∃ d, ss = [.d d] ∧ XP C [f] [d] n1) XP
theorem rds_raise1 {C : Addr} {f : Str} {ta : TA} {G : DTA} (hO : OexC K C) (hf : PySem.W.findIn K (.ref C) f = some none) (h1 : RdA K T S E ta G) : RdS K T S E (fun _ σ H => tMkO C (spX1 K C f) [] ta σ H fun cls d H' => E cls d H') (xsRaise1 C f G) := fun σ ρ Hb0 H0 n0 Hb H n DD XP D a sl h q x =>
  h1 σ ρ Hb H n _ XP _ a.wd sl.sl h (fun ss vs n1 Hb1 H1 s ha p => by
    obtain ⟨d, rfl, p⟩ := p
    obtain ⟨v, rfl, hv⟩ := Args.one (ss := []) ha
    refine ⟨by simp, fun y hy => ?_⟩
    refine ⟨y, v, rfl, hO, hf, upd_same, fun dx hdx hne => ?_⟩
    rw [upd_ne hne] at hdx
    refine ⟨rfl, dx, [(f, v)], upd_same, by rw [upd_ne hne, upd_same], hdx, ?_⟩
    have e : upd (del (upd (upd (upd H1 y (exo y C none)) dx (exd dx [(f, v)])) y (exo y C (some dx))) y) dx (.xd [(f, v)]) = upd H1 dx (.xd [(f, v)]) := by
      funext b
      by_cases hb : b = dx
      · rw [hb, upd_same, upd_same]
      · rw [upd_ne hb, upd_ne hb]
        by_cases hb2 : b = y
        · rw [hb2, del_same, hy]
        · rw [del_ne hb2, upd_ne hb2, upd_ne hb, upd_ne hb2]
    rw [e]
    have s1 : Stp K T S Hb1 H1 n1 (upd Hb1 dx (.xd [(f, v)])) (upd H1 dx (.xd [(f, v)])) n1 := .new s.wd hdx
    have ex := Ex.new (o := .xd [(f, v)]) (free_of s.wd.ex hdx)
    exact x C [f] [d] n1 (some dx) _ _ ((a.trans s).trans s1) ⟨[(f, v)], .inr ⟨dx, rfl, by simp, upd_same⟩, rfl, .cons (hv.up ex) .nil⟩ p) (x.step a)
/-- e.f, e an exception that was caught -/
def tXat (K : PySem.W.Frag) (ta : TE) (f : Str) : TE := fun σ H Q => ta σ H fun x H1 => ∃ (a C dd : Addr) (fs : List (Str × V)) (v : V), x = .ref a ∧ H1 a = some (ExT C (some dd) a) ∧ H1 dd = some (.xd fs) ∧ ExcC K C ∧ PySem.W.findIn K (.ref C) f = some none ∧ fs.lookup f = some v ∧ Q v H1
theorem pe_xat {X : Cx} {e : Expr} {ta : TE} {pos : Pos} {f : Str} (he : PE X e ta) (hb : attributeBase e f X.env (eval e X.env) = eval e X.env := by rfl) : PE X (.Attribute e f pos) (tXat X.K ta f) := by
  refine ⟨fun pins s σ H Q I h => ?_⟩
  refine attr_of hb (thn (he.run pins s σ H _ I h) fun u s1 hh => ?_)
  obtain ⟨x, H1, I1, rx, a, C, dd, fs, v, ex, ha, ed, T, hno, l, q⟩ := hh
  subst ex
  obtain rfl : u = Value.ref a := rx
  obtain ⟨⟨oe, vs, h1, ⟨h2, h3⟩, h4⟩, _, _⟩ := I1.hok a _ ha
  have hx : ObjOk X.prog X.w H1 s1.heap dd (.xd fs) := I1.hok dd _ ed
  obtain ⟨mA, hns, hr⟩ := hx
  obtain ⟨od, ho, hl⟩ := lookIn_ns hns
  obtain ⟨u, hu, ru⟩ := RelO.some_of (v := v) (o := mA f) (by rw [← l]; exact hr f)
  have J : PySem.W.InstAt s1.heap a oe C (some od) := ⟨h1, h2, by unfold PySem.W.notCls; rw [h4], by rw [h3]; exact ho⟩
  exact HandSPX.exc_get I1.kIn J T.hg T.hk T.hs (PySem.W.findObj_own T.hd hno rfl (by rw [hl, hu])) (handed_of ru) ⟨v, H1, I1.tok _, ru, q⟩
def xXat (K : PySem.W.Frag) (f : Str) (F : DT) : DT := fun ρ n P XP => F ρ n (fun d n1 => match d with
  | .exc C ns ds => PySem.W.findIn K (.ref C) f = some none ∧ ∃ x, fldD ns ds f = some x ∧ P x n1
  | _ => False) XP
theorem rd_xat {f : Str} (h1 : DL.Rd K T S E te FE) : DL.Rd K T S E (tXat K te f) (xXat K f FE) := fun σ ρ Hb H n P XP Q w sl h q x =>
  h1 σ ρ Hb H n _ XP _ w sl h (fun d v n1 Hb1 H1 s hd p => by
    cases hd with
    | @exc a C od fs ns ds hC hT g1 g0 g2 g3 =>
      obtain ⟨hn, y, e, p⟩ := p
      obtain ⟨v, e2, hv⟩ := fld_of g2 g3 e
      rcases g0 with g0 | ⟨dd, g0, hne, g4⟩
      · rw [g0.2] at e2
        cases e2
      · subst g0
        exact ⟨a, C, dd, fs, v, rfl, s.wd.ex _ _ g1, s.wd.ex _ _ g4, hC, hn, e2, q _ _ n1 Hb1 H1 s hv p⟩
    | _ => exact p.elim) x
end
end DL

/-! lambdas of one value that are handed on and called; functions as data -/
namespace DL
open L2 PySem PySem.Spec PyProof.Rows
open Evl (Ex ex_l ex_t sz_of)
/-! ### the call of such a lambda -/
def LamOk (P : Program) (w : PySem.World) (K : PySem.W.Frag) (mg : Str → Option Value) (base : Heap) (k : Nat) (F : FV) (sp : Sp) : Prop :=
  ∀ (A : Around) (outer : List Env) (s : Shared) (H : Hp) (f c : Addr) (v : V) (u : Value) (Q : VK) (E : XK), Room k A → H f = some (LamV F c f) → H c = some (LamX.CodeO c F.q) → sp [v] H Q E → L2.RelV v u → Env0 P w K mg base A outer s H →
    codeAny (model P w) A (.call (.ref f) ⟨[u], []⟩) (CR (L2.CX P w) outer P w H s Q E) s
section
variable {P : Program} {w : PySem.World} {K : PySem.W.Frag} {T : Tb} {mg : Str → Option Value} {base : Heap} {k : Nat} {F : FV} {sp : Sp}
theorem lamV_fun {P : Program} {w : PySem.World} {H : Hp} {h : Heap} {f c : Addr} (ok : HOk P w H h) (e : H f = some (LamV F c f)) : ∃ pm ctv, h.get? f = some (PySem.W.kla_obj "<lambda>" F.q F.ps F.body F.scope [] pm c ctv) := by
  obtain ⟨z, _, _⟩ := ok f _ e
  exact z
theorem lamOk_of {N : List Str} {x : Str} (Sc : FnScope N [x] F.scope) (hbind : ∀ (pm cv ctv : Value) (u : Value), bindArgs (PySem.W.kla_fn "<lambda>" F.q F.ps F.body F.scope [] pm cv ctv) ⟨[u], []⟩ = pure [(x, u)])
    (hbody : ∀ (c : Addr) (A : Around) (outer : List Env) (s : Shared) (H : Hp) (f : Addr) (v : V) (Q : VK) (E : XK), Room k (A.deeper (envOfC F.q F.scope s.heap.objs.size f (.ref c))) → sp [v] H Q E →
      ∃ t, PE (cxOf (L2.CX P w) P w K mg base N F.q F.scope f (.ref c) A outer s H E) F.body t ∧ t (L2.start N [v]) H Q) : LamOk P w K mg base (k + 1) F sp := by
  intro A outer s H f c v u Q E hr hf hc hsp rv e0
  obtain ⟨pm, ctv, hget⟩ := lamV_fun e0.hok hf
  obtain ⟨⟨oc, vs, t, hoc, hd, hv⟩, _, _⟩ := e0.hok c _ hc
  have lim : s.heap.NoLimit := e0.mod.nolimit.keeps fun b o e => (e0.bs b o e).1
  have hkind : ∀ y ∈ ([x] : List Str).zip [u], F.scope.names.lookup y.1 = some .local ∨ (F.scope.names.lookup y.1 = some .cell ∧ ((cellsFrom (s.heap.objs.size + 1) F.scope.names []).lookup y.1).isSome = true) := fun ⟨n, v⟩ hy => by
    rcases Sc.par n (List.of_mem_zip hy).1 with q | q
    · exact .inl q
    · exact .inr ⟨q, PySem.W.cellsFrom_some _ _ _ (.inl q)⟩
  refine PySem.W.kla_callFunE hr.depth hget rfl Sc.co Sc.gen rfl ⟨c, oc, vs, t, rfl, hoc, hd, hv⟩ ?_
  rw [hbind]
  refine wpAny_pure ?_
  refine wpAny_newFunctionEnv_cells Sc.kind hkind fun env he s1 y => ?_
  subst he
  refine ⟨lim.keeps y.toInCall.keep, ?_⟩
  obtain ⟨t', ht, hq⟩ := hbody c A outer s H f v Q E (hr.deeper _) hsp
  have r1 : Vals [v] [u] := .cons rv .nil
  have I : Inv (cxOf (L2.CX P w) P w K mg base N F.q F.scope f (.ref c) A outer s H E) [] (L2.start N [v]) H s1 := inv_start (us := [u]) Sc hr.hd e0 rfl r1 y
  refine PySem.W.kla_codeExpr (wpAny_mono (ht.run [] s1 (L2.start N [v]) H Q I hq) (fun v' s' hs => ?_) fun e s' hs => hs)
  obtain ⟨x', H', J, rx, q⟩ := hs
  exact ⟨x', H', J.os, J.bare, J.base, J.hok, rx, q⟩
/-- its promise on data -/
def LamOkD (P : Program) (w : PySem.World) (K : PySem.W.Frag) (mg : Str → Option Value) (base : Heap) (T : Tb) (k : Nat) (F : FV) (G : D → Nat → DQ → DX → Prop) : Prop := LamOk P w K mg base k F (spOf K T fun ss n P XP => ∃ d, ss = [.d d] ∧ G d n P XP)
theorem lamOkD_of {N : List Str} {x : Str} {G : D → Nat → DQ → DX → Prop} (Sc : FnScope N [x] F.scope) (hbind : ∀ (pm cv ctv : Value) (u : Value), bindArgs (PySem.W.kla_fn "<lambda>" F.q F.ps F.body F.scope [] pm cv ctv) ⟨[u], []⟩ = pure [(x, u)])
    (hb : ∀ (S : SA) (c : Addr) (A : Around) (outer : List Env) (s : Shared) (H : Hp) (f : Addr) (E : XK), Room k (A.deeper (envOfC F.q F.scope s.heap.objs.size f (.ref c))) →
      ∃ te G', PE (cxOf (L2.CX P w) P w K mg base N F.q F.scope f (.ref c) A outer s H E) F.body te ∧ DL.Rd K T S E te G' ∧ ∀ d n P XP, G d n P XP → G' (startS N [.d d]) n P XP) : LamOkD P w K mg base T (k + 1) F G := by
  refine lamOk_of Sc hbind fun c A outer s H f v Q E hr h => ?_
  obtain ⟨S, Hb, n, ss, P', XP, wd, ha, ⟨d, rfl, hd⟩, q, x⟩ := h
  obtain ⟨te, G', h1, h2, h3⟩ := hb S c A outer s H f E hr
  exact ⟨te, h1, h2 _ _ Hb H n P' XP Q wd (.start ha rfl) (h3 d n P' XP hd) q x⟩
end
section
variable {X : Cx} {k i : Nat} {x : Str} {p pos : Pos} {e : Expr} {ta : TA} {E : XK}
/-! ### its making -/
def tLamV (T : Tb) (F : FV) : TE := fun σ H Q => LamX.Tabs T H ∧ ∀ (f c : Addr) (H1 : Hp), LamX.ExtN H H1 → LamX.Tabs T H1 → H1 f = none → H1 c = some (LamX.CodeO c F.q) → Q (.ref f) (upd H1 f (LamV F c f))
theorem lamV_ok {P : Program} {w : PySem.World} {H : Hp} {h : Heap} {F : FV} {f c : Addr} {pm ctv : Value} (e : h.get? f = some (PySem.W.kla_obj "<lambda>" F.q F.ps F.body F.scope [] pm c ctv)) : ObjOk P w H h f (LamV F c f) :=
  ⟨⟨pm, ctv, e⟩, ⟨_, e⟩, fun h1 h2 ⟨pm, ctv, z⟩ st => ⟨pm, ctv, st _ z⟩⟩
theorem lamV_tbl {F : FV} {f c : Addr} (ps : Array Value) : LamV F c f ≠ .tbl ps := fun z => by
  unfold LamV at z
  cases z
theorem pe_lamV {T : Tb} {c : Addr} {params : Arguments} {body : Expr} {scope : Scope} (M : MakesAt X.base X.mg T (X.env.qual ++ "<lambda>") c) (hcode : X.env.code = .ref c) (hdef : defaultsOf params X.env = ([], [])) (hclo : ∀ cells, L2.cloFrom cells scope.names [] = [])
    (hfree : ∀ y ∈ scope.names, y.2 = .free → ∃ c, X.env.cells.lookup y.1 = some c) : PE X (.Lambda params body scope pos) (tLamV T ⟨X.env.qual ++ "<lambda>", params, body, scope⟩) := by
  refine ⟨fun pins s σ H Q I h => ?_⟩
  obtain ⟨hT, h⟩ := h
  obtain ⟨P, TB, hm, hu⟩ := M.ex
  obtain ⟨ps, hP, ht, ha⟩ := hT _ hm
  refine PySem.W.kla_eval hdef ?_
  have bP : s.heap.BuiltinsAt X.mg P := TB.bm.keeps I.bk
  have hP' : s.heap.get? P = some { cls := .none, data := .fields ps } := I.hok P _ hP
  cases hc : codeAmong pos ps.toList with
  | none =>
    refine PySem.W.kla_makeFunction (mg := X.mg) (c := c) (P := P) (ps := ps) (closure_ok hfree) I.ok.glob (I.mod.glob.keeps I.bk) hcode (TB.code.keeps I.bk) hP' ht hc TB.gP bP fun c' ctv h' tk hx hge hlt hrec htb => ?_
    rw [hclo]
    obtain ⟨c2, oc, vs, t, e2, hoc, hd, hv⟩ := hrec
    cases e2
    have nC : H c' = none := I.hok.fresh hge
    have hsz : s.heap.objs.size ≤ h'.objs.size := Nat.le_trans hge (Nat.le_of_lt hlt)
    have I1 := LamX.inv_table (t' := tk) (more := #[rawInt pos.line, rawInt pos.col, .ref c']) (h' := h') I hP (fun b o hb e => hx b o hb e) htb hge ⟨oc, vs, t, hoc, hd, hv⟩
    have hE : LamX.ExtN H (upd (upd H P (.tbl (ps ++ #[rawInt pos.line, rawInt pos.col, .ref c']))) c' (LamX.CodeO c' (X.env.qual ++ "<lambda>"))) := fun b o e n => by
      rw [upd_ne (ne_of_none e nC), upd_ne (fun z => n ps (Option.some.inj (e.symm.trans (by rw [z]; exact hP))))]
      exact e
    have eL : (ps ++ #[rawInt pos.line, rawInt pos.col, .ref c']).toList = ps.toList ++ [rawInt pos.line, rawInt pos.col, .ref c'] := by simp
    have T1 : LamX.Tabs T (upd (upd H P (.tbl (ps ++ #[rawInt pos.line, rawInt pos.col, .ref c']))) c' (LamX.CodeO c' (X.env.qual ++ "<lambda>"))) := fun p hp => by
      by_cases hb : p.1 = P
      · rw [hu p hp hb, hb]
        refine ⟨_, by rw [upd_ne (ne_of_none hP nC), upd_same], by rw [eL]; exact PySem.TriplesOk_snoc _ _ _ _ ht, fun p' cv hcv => ?_⟩
        rw [eL] at hcv
        rcases LamX.among_app _ ht hcv with z | z
        · obtain ⟨c0, e1, e2⟩ := ha p' cv z
          exact ⟨c0, e1, hE _ _ e2 LamX.codeO_ne⟩
        · exact ⟨c', z, upd_same⟩
      · obtain ⟨ps', a1, a2, a3⟩ := hT p hp
        refine ⟨ps', by rw [upd_ne (ne_of_none a1 nC), upd_ne hb]; exact a1, a2, fun p' cv hcv => ?_⟩
        obtain ⟨c0, e1, e2⟩ := a3 p' cv hcv
        exact ⟨c0, e1, hE _ _ e2 LamX.codeO_ne⟩
    have n1 : h'.objs.size ≠ c' := Nat.ne_of_gt hlt
    have n2 : h'.objs.size ≠ P := Nat.ne_of_gt (Nat.lt_of_lt_of_le (Heap.lt_size hP') hsz)
    have hfn : upd (upd H P (.tbl (ps ++ #[rawInt pos.line, rawInt pos.col, .ref c']))) c' (LamX.CodeO c' (X.env.qual ++ "<lambda>")) h'.objs.size = none := by
      rw [upd_ne n1, upd_ne n2]
      exact I.hok.fresh hsz
    have I2 := I1.laid (t' := tk) (h' := h'.push (PySem.W.kla_obj "<lambda>" (X.env.qual ++ "<lambda>") params body scope [] ((X.mg "__name__").getD .none) c' ctv)) (fun b o e => Heap.get?_push_of_some _ e) (Nat.le_refl _) (lamV_ok (F := ⟨X.env.qual ++ "<lambda>", params, body, scope⟩) (Heap.get?_push_size _ rfl))
    exact ⟨.ref h'.objs.size, _, I2, rfl, h h'.objs.size c' _ hE T1 hfn upd_same⟩
  | some cv =>
    obtain ⟨c', e, hco⟩ := ha pos cv hc
    subst e
    refine PySem.W.kla_makeFunctionHit (mg := X.mg) (c := c) (P := P) (ps := ps) (closure_ok hfree) I.ok.glob (I.mod.glob.keeps I.bk) hcode (TB.code.keeps I.bk) hP' ht hc bP fun ctv h' tk hx hsz => ?_
    rw [hclo]
    have I1 : Inv X pins σ H { s with heap := h', toks := tk } := I.kept fun b o e => hx b o e
    have hfn : H h'.objs.size = none := I.hok.fresh hsz
    have I2 := I1.laid (t' := tk) (h' := h'.push (PySem.W.kla_obj "<lambda>" (X.env.qual ++ "<lambda>") params body scope [] ((X.mg "__name__").getD .none) c' ctv)) (fun b o e => Heap.get?_push_of_some _ e) (Nat.le_refl _) (lamV_ok (F := ⟨X.env.qual ++ "<lambda>", params, body, scope⟩) (Heap.get?_push_size _ rfl))
    exact ⟨.ref h'.objs.size, _, I2, rfl, h h'.objs.size c' H (LamX.ExtN.refl H) hT hfn hco⟩
end
end DL

/-! function values on data; keywords -/
namespace DL
open L2 PySem PySem.Spec PyProof.Rows
open Evl (Ex ex_l ex_t sz_of)
section
variable {P : Program} {w : PySem.World} {mg : Str → Option Value} {base : Heap} {K : PySem.W.Frag} {T : Tb} {S : SA} {E : XK} {Hb H Hb1 H1 : Hp} {n n1 k : Nat} {te : TE} {FE : DT} {ta : TA} {GA : DTA}
abbrev LamP := FV → (D → Nat → DQ → DX → Prop) → Prop
/-! ### functions as data -/
abbrev HldP := Addr → DSp0 → Prop
def HeldD (P : Program) (w : PySem.World) (K : PySem.W.Frag) (mg : Str → Option Value) (base : Heap) (T : Tb) (k : Nat) : HldP := fun f DS => Held P w K mg base k f (sp0 K T DS)
/-! ### keywords -/
def gpI {α : Type} : List Nat → List α → List α
  | [], _ => []
  | i :: is, ws => match ws[i]? with
    | some w => w :: gpI is ws
    | none => gpI is ws
def gp {α : Type} (ix : List Nat) (us ws : List α) : List α := us ++ gpI ix ws
theorem vals_get {zs : List V} {ws : List Value} (h : Vals zs ws) : ∀ i : Nat, (∃ z w, zs[i]? = some z ∧ ws[i]? = some w ∧ L2.RelV z w) ∨ (zs[i]? = none ∧ ws[i]? = none) := by
  induction h with
  | nil => intro i; right; simp
  | @cons z w zs ws r _ ih =>
    intro i
    cases i with
    | zero => exact .inl ⟨z, w, rfl, rfl, r⟩
    | succ i => simpa using ih i
theorem gpI_rel {zs : List V} {ws : List Value} (h : Vals zs ws) : ∀ ix : List Nat, Vals (gpI ix zs) (gpI ix ws)
  | [] => .nil
  | i :: ix => by
    unfold gpI
    rcases vals_get h i with ⟨z, w, e1, e2, r⟩ | ⟨e1, e2⟩
    · rw [e1, e2]
      exact .cons r (gpI_rel h ix)
    · rw [e1, e2]
      exact gpI_rel h ix
theorem gp_rel {ix : List Nat} {vs : List V} {us : List Value} {zs : List V} {ws : List Value} (h : Vals vs us) (g : Vals zs ws) : Vals (gp ix vs zs) (gp ix us ws) := h.append (gpI_rel g ix)
theorem Args.getI {ss : List SV} {vs : List V} (h : Args K S Hb H n ss vs) : ∀ i : Nat, (∃ s v, ss[i]? = some s ∧ vs[i]? = some v ∧ SlotOk K S Hb H n s (some v)) ∨ (ss[i]? = none ∧ vs[i]? = none) := by
  induction h with
  | nil => intro i; right; simp
  | @cons s v ss vs r _ ih =>
    intro i
    cases i with
    | zero => exact .inl ⟨s, v, rfl, rfl, r⟩
    | succ i => simpa using ih i
theorem Args.gpI {ss : List SV} {vs : List V} (h : Args K S Hb H n ss vs) : ∀ ix : List Nat, Args K S Hb H n (DL.gpI ix ss) (DL.gpI ix vs)
  | [] => .nil
  | i :: ix => by
    unfold DL.gpI
    rcases h.getI i with ⟨z, w, e1, e2, r⟩ | ⟨e1, e2⟩
    · rw [e1, e2]
      exact .cons r (Args.gpI h ix)
    · rw [e1, e2]
      exact Args.gpI h ix
theorem Args.append {ss ts : List SV} {vs us : List V} (h : Args K S Hb H n ss vs) (g : Args K S Hb H n ts us) : Args K S Hb H n (ss ++ ts) (vs ++ us) := by
  induction h with
  | nil => exact g
  | cons r _ ih => exact .cons r ih
def ds0 (DS : DSp0) : DSp := fun ss n P _ => noOl ss = true ∧ DS ss n P
end
section
variable {X : Cx} {CX : CXT} {k : Nat} {f : Addr} {fd : FuncData} {ps ks : List Str} {sp : Sp} {E : XK} {x : Str} {p pos : Pos} {kws : List Keyword} {tk : TA} {g : List Value → List Value → List Value} {gV : List V → List V → List V}
/-- f(k = v, ..) -/
theorem pe_callN0 (F : FnOk X.prog X.w X.K X.mg X.base CX k f fd ps sp) (hr : Room k X.A) (hg : Gl X x) (hm : X.mg x = some (.ref f)) (hk : PySem.W.keepIn X.K (.ref f) = true) (hb : KBn X.K fd ps 0 ks g gV) (hx : Passes CX X E)
    (hkw : PK X kws tk) (hall : (backToKw pos (keywordEach kws X.env)).all (·.1.isSome) = true := by rfl) (hks : (backToKw pos (keywordEach kws X.env)).filterMap (·.1) = ks := by rfl)
    (hdb : (x == ("__debug__" : Str)) = false := by decide)
    (hpl : ((backTo pos (starEach [] X.env)).any (·.1) || (backToKw pos (keywordEach kws X.env)).any (·.1.isNone)) = false := by rfl) :
    PE X (.Call (.Name x p) [] kws pos) (tCallN 0 ks.length sp gV E tNil tk) := by
  refine ⟨fun pins s σ H Q I h => ?_⟩
  refine wpAny_Call_Name_kw (ld_glob I hg hm ?_ hdb)
  refine PySem.W.callWith_KW0 (h₀ := X.base) I.ok.mod.kin hk hall ?_ hpl
  refine thn (hkw.run pos pins s σ H _ I h) fun ws s2 ⟨zs, H2, I2, rz, l1, l2, q2⟩ => ⟨I2.kIn, ?_⟩
  rw [hks]
  exact run_fnN (us := []) (vs := []) F hr hb hx I2 .nil rz rfl l2 q2
end
section
variable {K : PySem.W.Frag} {x qual : Str} {st : Stmt} {f : Addr} {fd : FuncData} {ps ks : List Str} {n : Nat} {ix : List Nat}
theorem kbn_of (F : L2.Fun K x qual st f fd) (h : ∀ (kV doc pm : Value) (an : Option Addr) (cdv ct : Value) (us ws : List Value), us.length = n → ws.length = ks.length → bindArgs (PySem.W.fnOf x qual (defArgs st) (defBody st) (defScope st) .none kV doc pm an cdv ct) ⟨us, ks.zip ws⟩ = pure (ps.zip (gp ix us ws))) : KBn K fd ps n ks (gp ix) (gp ix) := by
  obtain ⟨oc, od, kV, doc, pm, an, cdv, ct, osl, rfl, lk, hcd⟩ := F.ex
  exact ⟨fun s us ws _ h1 h2 => .of_eq (h kV doc pm an cdv ct us ws h1 h2), fun a b => gp_rel a b⟩
/-- a def as it stands, for calls by keywords too -/
def HasF (P : Program) (w : PySem.World) (K : PySem.W.Frag) (mg : Str → Option Value) (base : Heap) (CX : CXT) (k : Nat) (name : Str) (st : Stmt) (ps : List Str) (sp : Sp) : Prop :=
  ∃ f fd, FnOk P w K mg base CX k f fd ps sp ∧ mg name = some (.ref f) ∧ PySem.W.keepIn K (.ref f) = true ∧ Binds K fd ps [] ∧ L2.Fun K name name st f fd
theorem HasF.has {P : Program} {w : PySem.World} {mg : Str → Option Value} {base : Heap} {CX : CXT} {k : Nat} {name : Str} {sp : Sp} (h : HasF P w K mg base CX k name st ps sp) : Has P w K mg base CX k name ps sp := by
  obtain ⟨f, fd, a, b, c, d, _⟩ := h
  exact ⟨f, fd, a, b, c, d⟩
end
end DL

/-! t[::-1] of a tuple; xs != [] whatever the items; sorted of ints -/
namespace HT
open PySem PySem.Spec PyProof.Rows
section
variable {prog : Program} {w : World} {A : Around} {E : Value → Shared → Prop} {s : Shared}
end
end HT
namespace DL
open L2 PySem PySem.Spec PyProof.Rows
open Evl (Ex ex_l ex_t sz_of)
/-! ### t[::-1] -/
section
variable {K : PySem.W.Frag} {T : Tb} {S : SA} {E : XK} {Hb H Hb1 H1 : Hp} {n n1 : Nat} {te : TE} {FE : DT}
/-! ### xs != [] -/
def rNeNil (K : PySem.W.Frag) : R2 := fun x y H Q => ∃ a b xs, x = .ref a ∧ y = .ref b ∧ SqL K H a xs ∧ SqL K H b [] ∧ Q (.bl (!xs.isEmpty)) H
theorem op_neNil {X : Cx} (hu : X.A.units + 64 < cLine) : OpR X (compareOp .NotEq) (rNeNil X.K) := by
  intro pins s σ H x y v u Q I rx ry h
  obtain ⟨a, b, xs, rfl, rfl, ha, hb, q⟩ := h
  cases rx
  cases ry
  obtain ⟨its, r1, p1, _⟩ := I.list ha
  obtain ⟨its2, r2, p2, _⟩ := I.list hb
  have hu0 : X.A.units < cLine := Nat.lt_of_le_of_lt (Nat.le_add_right _ _) hu
  have e2 : its2 = [] := by
    cases r2
    rfl
  subst e2
  cases xs with
  | nil =>
    have e1 : its = [] := by
      cases r1
      rfl
    subst e1
    exact SeqAt.RcNeAt.lists (e := fun _ => true) p1.isList p2.isList rfl hu0 (fun j h1 h2 => by simp at h1) X.prog X.w _ _ ⟨.bl _, H, I, rfl, q⟩
  | cons x xs =>
    have hl := r1.length
    exact SeqAt.RcNeAt.lists_lengths p1.isList p2.isList (by simp; intro z; rw [z] at hl; simp at hl) hu0 X.prog X.w _ _ ⟨.bl _, H, I, rfl, q⟩
def neNilD : D → D → (D → Prop) → Prop := fun a b k => match a, b with
  | .lst xs, .lst [] => k (.bl (!xs.isEmpty))
  | _, _ => False
theorem o2_neNil : Op2 K (rNeNil K) neNilD := by
  intro T S x y a b Hb H n P Q w hx hy h q
  unfold neNilD at h
  split at h
  · cases hx with
    | @lst p vs ds g1 g2 =>
      cases hy with
      | @lst p2 vs2 ds2 g3 g4 =>
        cases g4
        refine ⟨p, p2, vs, rfl, rfl, ex_l w.ex g1, ex_l w.ex g3, q.now w (.bl _) ?_⟩
        cases g2 with
        | nil => exact h
        | cons _ _ => exact h
  · exact h.elim
/-! ### sorted of ints -/
theorem ints_of : ∀ {ns : List Int} {vs : List V}, DnA K H vs (ns.map D.int) → vs = ns.map V.int
  | [], _, h => by cases h; rfl
  | n :: ns, _, h => by
    cases h with
    | cons h1 h2 =>
      cases h1
      rw [ints_of h2]
      rfl
end
end DL

/-! list(range(n)); len(set(t)) of a tuple of ints; t == () of a tuple -/
namespace RZ
open L2 PySem PySem.Spec PyProof.Rows PySem.W Pv
def intsV (m : Nat) : List V := (List.range m).map fun (j : Nat) => V.int (j : Int)
def tListRng (ta : TA) : TE := fun σ H Q => ta σ H fun vs H1 => ∃ i : Int, vs = [.int i] ∧ 0 ≤ i ∧ i ≤ 100000 ∧ ∀ p, H1 p = none → Q (.ref p) (upd H1 p (.lst (intsV i.toNat)))
theorem vals_at : ∀ {vs : List V} {us : List Value}, vs.length = us.length → (∀ (j : Nat) (v : V) (u : Value), vs[j]? = some v → us[j]? = some u → L2.RelV v u) → Vals vs us
  | [], [], _, _ => .nil
  | v :: vs, u :: us, hl, h => .cons (h 0 v u rfl rfl) (vals_at (by simpa using hl) fun j v u a b => h (j + 1) v u a b)
theorem rel_ints {acc : Array Value} {m : Nat} (h : ItemsOf (fun i v => ∃ t, v = Value.int ((0 : Int) + (i : Int) * 1) t) acc m) : Vals (intsV m) acc.toList := by
  refine vals_at (by simp [intsV, h.1]) fun j v u a b => ?_
  obtain ⟨t, rfl⟩ := h.2 j u (by simpa using b)
  unfold intsV at a
  rw [List.getElem?_map] at a
  have hj : j < m := by
    apply Decidable.byContradiction
    intro z
    rw [List.getElem?_eq_none (by simp; omega)] at a
    cases a
  rw [List.getElem?_range hj] at a
  simp only [Option.map_some, Option.some.injEq] at a
  subst a
  exact ⟨t, by simp⟩
theorem pe_listRng {X : Cx} {e : Expr} {ta : TA} {p p2 pos pos2 : Pos} (hgl : Gl X "list") (hml : X.mg "list" = none) (hg : Gl X "range") (hm : X.mg "range" = none) (ha : PA X [e] ta)
    (hc : X.calm = true := by rfl)
    (na : starEach [.Call (.Name "range" p2) [e] [] pos2] X.env = (false, eval (.Call (.Name "range" p2) [e] [] pos2) X.env) :: starEach [] X.env := by rfl)
    (hs : starEach [e] X.env = (false, eval e X.env) :: starEach [] X.env := by rfl) (hpl : (backTo pos2 (starEach [] X.env)).any (·.1) = false := by rfl) :
    PE X (.Call (.Name "list" p) [.Call (.Name "range" p2) [e] [] pos2] [] pos) (tListRng ta) := by
  refine ⟨fun pins s σ H Q I h => ?_⟩
  refine Call_ (ld_blt I hgl hml PyProof.Rows.boot_list ?_)
  refine PyProof.Rows.callWith_type1 (PyProof.Rows.args_cons ?_ na) na rfl
  refine Call_ (ld_blt I hg hm PyProof.Rows.boot_range (PyProof.Rows.callWith_type1 (thn (ha.run pos2 pins s σ H _ I h) fun us s1 ⟨vs, H1, I1, r1, q1⟩ => ?_) hs hpl))
  obtain ⟨i, ex, h0, hi, q⟩ := q1
  subst ex
  cases r1 with
  | cons r rr =>
    cases rr
    obtain ⟨t, r⟩ := r
    subst r
    refine call_range_1 ?_
    refine PyProof.Rows.args_nil ?_
    have hsz : Builtin.Range.rangeSize 0 i 1 = (i.toNat : Int) := by rw [rangeSize_nat]; simp
    have hR : IsRange (s1.heap.push { cls := .type "range", data := .fields #[.int 0 s1.toks, .int i t, .int 1 (s1.toks + 1)] }) s1.heap.objs.size 0 i 1 s1.toks t (s1.toks + 1) := Heap.get?_push_size _ rfl
    have hsm : Builtin.Range.small 0 i 1 = true := by
      unfold Builtin.Range.small
      rw [hsz]
      unfold Builtin.Range.rangeFitsLong
      have a1 : (-2 ^ 63 : Int) ≤ i := by omega
      have a2 : i < (2 ^ 63 : Int) := by omega
      have a3 : (-2 ^ 63 : Int) ≤ ((i.toNat : Nat) : Int) := by omega
      have a4 : ((i.toNat : Nat) : Int) < (2 ^ 63 : Int) := by omega
      have a5 : (-2 ^ 63 : Int) ≤ i + (1 - 1) := by omega
      have a6 : i + (1 - 1) < (2 ^ 63 : Int) := by omega
      simp only [a1, a2, a3, a4, a5, a6, decide_true, Bool.and_self, Bool.and_true, Bool.true_and]
      simp
    refine call_list_range (I1.ok.hd hc) hR hsm hsz (by omega) fun h' tk acc c' hk hl hi => ?_
    have hkk : ∀ b o, s1.heap.get? b = some o → h'.get? b = some o := fun b o e => hk b o (Heap.get?_push_of_some _ e)
    have hle : s1.heap.objs.size ≤ s1.heap.objs.size + 1 := Nat.le_succ _
    have hps : (s1.heap.push { cls := .type "range", data := .fields #[.int 0 s1.toks, .int i t, .int 1 (s1.toks + 1)] }).objs.size = s1.heap.objs.size + 1 := by simp [Heap.push]
    rw [hps] at hl ⊢
    have hSH : H1 (s1.heap.objs.size + 1) = none := I1.hok.fresh hle
    have okF : HOk X.prog X.w (upd H1 (s1.heap.objs.size + 1) (.lst (intsV i.toNat))) h' := (I1.hok.kept hkk).laidN (fun _ _ q => q) hSH ⟨by simp only [intsV, List.length_map, List.length_range]; exact Nat.le_trans (m := 100000) (by omega) (by decide), acc.toList, c', rel_ints hi, by rw [hl]⟩
    exact ⟨.ref _, _, I1.un (t' := tk) (Un.more (Un.kept hkk) hle hSH) okF, rfl, q _ hSH⟩
theorem vals_ints : ∀ {ns : List Int} {us : List Value}, Vals (ns.map V.int) us → IntsAre us ns
  | [], _, h => by cases h; exact .nil
  | n :: ns, _, h => by
    cases h with
    | cons r rr =>
      obtain ⟨t, r⟩ := r
      subst r
      exact .cons n t (vals_ints rr)
/-! ### t == () -/
def rEqNilT (K : PySem.W.Frag) : R2 := fun x y H Q => ∃ a b xs, x = .ref a ∧ y = .ref b ∧ SqT K H a xs ∧ SqT K H b [] ∧ Q (.bl xs.isEmpty) H
theorem op_eqNilT {X : Cx} (hu : X.A.units + 64 < cLine) : OpR X (compareOp .Eq) (rEqNilT X.K) := by
  intro pins s σ H x y v u Q I rx ry h
  obtain ⟨a, b, xs, rfl, rfl, ha, hb, q⟩ := h
  cases rx
  cases ry
  obtain ⟨its, r1, p1, _⟩ := I.tuple ha
  obtain ⟨its2, r2, p2, _⟩ := I.tuple hb
  have hu0 : X.A.units < cLine := Nat.lt_of_le_of_lt (Nat.le_add_right _ _) hu
  have e2 : its2 = [] := by
    cases r2
    rfl
  subst e2
  have z := SeqAt.RcAt.tuples (e := fun _ => true) (show s.heap.IsTuple a its.toArray from p1) (show s.heap.IsTuple b [].toArray from p2) hu0 (fun j h1 h2 => by simp at h2)
  have e3 : ((List.range (min its.toArray.size (#[] : Array Value).size)).all (fun _ => true) && its.toArray.size == (#[] : Array Value).size) = xs.isEmpty := by
    have := r1.length
    cases xs <;> cases its <;> simp_all
  rw [e3] at z
  exact z X.prog X.w _ _ ⟨.bl _, H, I, rfl, q⟩
end RZ
namespace DL
open L2 PySem PySem.Spec PyProof.Rows
open Evl (Ex ex_l ex_t sz_of)
section
variable {K : PySem.W.Frag} {T : Tb} {S : SA} {E : XK} {te : TE} {FE : DT}
def natsI (m : Nat) : List Int := (List.range m).map fun (j : Nat) => (j : Int)
def natsD (m : Nat) : List D := (natsI m).map D.int
theorem intsV_eq {m : Nat} : RZ.intsV m = (natsI m).map V.int := by unfold RZ.intsV natsI; rw [List.map_map]; rfl
def xListRng (G : DTA) : DT := fun ρ n P XP => G ρ n (fun ss n1 => ∃ i : Int, ss = [.d (.int i)] ∧ 0 ≤ i ∧ i ≤ 100000 ∧ P (.lst (natsD i.toNat)) n1) XP
theorem rd_listRng {ta : TA} {GA : DTA} (h1 : RdA K T S E ta GA) : DL.Rd K T S E (RZ.tListRng ta) (xListRng GA) := fun σ ρ Hb H n P XP Q w sl h q x =>
  h1 σ ρ Hb H n _ XP _ w sl h (fun ss vs n1 Hb1 H1 s ha p => by
    obtain ⟨i, rfl, h0, hi, p⟩ := p
    obtain ⟨v, rfl, hv⟩ := Args.one (ss := []) ha
    cases hv
    exact ⟨i, rfl, h0, hi, fun l hl => (q.step s).new s.wd hl (.lst (SqL.of upd_same) (by rw [intsV_eq]; exact DnA.ints _)) p⟩) x
def eqNilTD : D → D → (D → Prop) → Prop := fun a b k => match a, b with
  | .tup xs, .tup [] => k (.bl xs.isEmpty)
  | _, _ => False
theorem o2_eqNilT : Op2 K (RZ.rEqNilT K) eqNilTD := by
  intro T S x y a b Hb H n P Q w hx hy h q
  unfold eqNilTD at h
  split at h
  · cases hx with
    | @tup p vs ds g1 g2 =>
      cases hy with
      | @tup p2 vs2 ds2 g3 g4 =>
        cases g4
        refine ⟨p, p2, vs, rfl, rfl, ex_t w.ex g1, ex_t w.ex g3, q.now w (.bl _) ?_⟩
        cases g2 with
        | nil => exact h
        | cons _ _ => exact h
  · exact h.elim
end
end DL

/-! exceptions with one attribute as a class of the program; lambdas without free names -/
namespace DL
open L2 PySem PySem.Spec PyProof.Rows
def HasX1 (P : Program) (w : PySem.World) (K : PySem.W.Frag) (mg : Str → Option Value) (base : Heap) (C : Addr) (f : Str) : Prop :=
  ∃ (fI : Addr) (fd : FuncData) (a b : Str), OexC K C ∧ PySem.W.findIn K (.ref C) f = some none ∧ PySem.W.findIn K (.ref C) "__init__" = some (some (.ref fI)) ∧ PySem.W.typeIn K (.ref fI) = some (.type "function") ∧
    FnOk P w K mg base CX0 1 fI fd [a, b] (spX1 K C f) ∧ Binds K fd [a, b] []
theorem noFree {scope : Scope} {cells : List (Str × Addr)} (h : (scope.names.all fun y => match y.2 with | .free => false | _ => true) = true) : ∀ y ∈ scope.names, y.2 = .free → ∃ c, cells.lookup y.1 = some c := fun y hy e => by
  have z := List.all_eq_true.mp h y hy
  rw [e] at z
  cases z
end DL
namespace DL
open L2 PySem PySem.Spec PyProof.Rows
end DL

/-! a, b, c = e1, e2, e3 -/
namespace DL
open L2 PySem PySem.Spec PyProof.Rows
open Evl (Ex ex_l ex_t sz_of)
theorem lamScope {q : Str} {ps : Arguments} {body : Expr} {scope : Scope} {N : List Str} {x : Str} (h : FnScope N [x] scope) : FnScope N [x] (FV.mk q ps body scope).scope := h
section
variable {K : PySem.W.Frag} {T : Tb} {S : SA} {E : XK} {Hb H : Hp} {n : Nat}
theorem Args.three {ss : List SV} {vs : List V} {d e f : D} (h : Args K S Hb H n [.d d, .d e, .d f] vs) : ∃ v u t, vs = [v, u, t] ∧ Dn K Hb v d ∧ Dn K Hb u e ∧ Dn K Hb t f := by
  cases h with
  | cons h1 h2 =>
    obtain ⟨u, t, rfl, hu, ht⟩ := Args.two (ss := []) h2
    obtain ⟨_, e, hv⟩ := h1
    cases e
    exact ⟨_, _, _, rfl, hv, hu, ht⟩
end
end DL

/-! the classes of exceptions with one attribute, by facts of the program's start -/
namespace DL
open L2 PySem PySem.Spec PyProof.Rows
open He (ga ma fAd cT)
def oexB (K : PySem.W.Frag) (C : Addr) : Bool := match K.lookup C with
  | some ⟨.type t, _, .cls ⟨_, _, m :: bm, _, _, true, _, _, _, _, false⟩, ⟨[_, _, _, _, some (.builtin n), _]⟩⟩ => t == "type" && (He.eqO (some (some m)) (some (some (.ref C))) && (n == "ValueError.__new__" && PySem.HandSPX.refsVE bm))
  | _ => false
theorem oexB_ok {K : PySem.W.Frag} {C : Addr} (h : oexB K C = true) : ∃ nm q N bs bm sn sub ab col dd k0 k1 k2 k3 k5,
    K.lookup C = some (excClassObj nm q C N bs bm true sn sub ab col dd k0 k1 k2 k3 k5 "ValueError.__new__") ∧ PySem.HandSPX.refsVE bm = true := by
  unfold oexB at h
  split at h
  · rename_i t dd nm bs m bm ns q sn sub ab col k0 k1 k2 k3 n k5 e
    obtain ⟨h1, h⟩ := b2 h
    obtain ⟨h2, h⟩ := b2 h
    obtain ⟨h3, h4⟩ := b2 h
    have e1 := eq_of_beq h1
    have e3 := eq_of_beq h3
    have e2 : m = .ref C := Option.some.inj (Option.some.inj (He.eqO_ok h2))
    subst e1 e2 e3
    exact ⟨nm, q, ns, bs, bm, sn, sub, ab, col, dd, k0, k1, k2, k3, k5, e, h4⟩
  · cases h
structure X1F (K : PySem.W.Frag) (CS C : Addr) (f : Str) : Prop where
  o : OexC K C
  n : PySem.W.findIn K (.ref C) f = some none
  i : PySem.W.findIn K (.ref C) "__init__" = some (some (.ref (ma K C "__init__")))
  t : PySem.W.typeIn K (.ref (ma K C "__init__")) = some (.type "function")
  r : ErrC K CS C
  k : PySem.W.kitOne K (.ref C) (.ref C) = some true
def x1B (K : PySem.W.Frag) (CS C : Addr) (f : Str) : Bool := oexB K C && (He.eqO (PySem.W.findIn K (.ref C) "__setattr__") (some (some (.builtin "object.__setattr__"))) && (eqB (PySem.W.subIn K (.ref C) (.type "BaseException")) (some true) && (eqV (PySem.W.typeIn K (.ref C)) (.type "type") && (PySem.W.keepIn K (.ref C) &&
  (He.eqO (PySem.W.findIn K (.ref C) f) (some none) && (He.eqO (PySem.W.findIn K (.ref C) "__init__") (some (some (.ref (ma K C "__init__")))) && (eqV (PySem.W.typeIn K (.ref (ma K C "__init__"))) (.type "function") && (errCB K CS C && eqB (PySem.W.kitOne K (.ref C) (.ref C)) (some true)))))))))
theorem x1B_ok {K : PySem.W.Frag} {CS C : Addr} {f : Str} (h : x1B K CS C f = true) : X1F K CS C f := by
  obtain ⟨h1, h⟩ := b2 h
  obtain ⟨h2, h⟩ := b2 h
  obtain ⟨h3, h⟩ := b2 h
  obtain ⟨h4, h⟩ := b2 h
  obtain ⟨h5, h⟩ := b2 h
  obtain ⟨h6, h⟩ := b2 h
  obtain ⟨h7, h⟩ := b2 h
  obtain ⟨h8, h⟩ := b2 h
  obtain ⟨h9, h10⟩ := b2 h
  exact ⟨⟨oexB_ok h1, He.eqO_ok h2, eqB_ok h3, eqV_ok h4, h5⟩, He.eqO_ok h6, He.eqO_ok h7, eqV_ok h8, errCB_ok h9, eqB_ok h10⟩
theorem hasX1_of {P : Program} {w : PySem.World} {K : PySem.W.Frag} {mg : Str → Option Value} {base : Heap} {CS C : Addr} {f : Str} {fd : FuncData} {a b : Str} (x : X1F K CS C f) (ok : FnOk P w K mg base CX0 1 (ma K C "__init__") fd [a, b] (spX1 K C f)) (B : Binds K fd [a, b] []) : HasX1 P w K mg base C f :=
  ⟨_, fd, a, b, x.o, x.n, x.i, x.t, ok, B⟩
end DL

namespace Lw
open L2 PySem DL
def topS (i : Nat) : Stmt := PySem.Challenge.pw_oncefound_k38_all_good_arrows.main.body.getD i (.Pass ⟨0, 0, 0, 0⟩)
/-- where the classes of the program stand -/
structure Cs where
  BadCustomTree : Addr
  BadKinds : Addr
  BadMatter : Addr
  BadRows : Addr
  BadTable : Addr
  FoundError : Addr
  Table : Addr
  TooMany : Addr
  Unread : Addr
structure Tk where
  MOST_ARROWS : Tok
  MOST_KIND : Tok
  MOST_MATTERS : Tok
  MOST_VALLEYS : Tok
structure Txt (K : PySem.W.Frag) (mg : Str → Option Value) (cs : Cs) (tk : Tk) : Prop where
  n_abs : mg "abs" = none
  n_all : mg "all" = none
  n_any : mg "any" = none
  n_bool : mg "bool" = none
  n_enumerate : mg "enumerate" = none
  n_int : mg "int" = none
  n_isinstance : mg "isinstance" = none
  n_len : mg "len" = none
  n_list : mg "list" = none
  n_max : mg "max" = none
  n_min : mg "min" = none
  n_range : mg "range" = none
  n_repr : mg "repr" = none
  n_set : mg "set" = none
  n_sorted : mg "sorted" = none
  n_tuple : mg "tuple" = none
  n_zip : mg "zip" = none
  m_combinations : mg "combinations" = some (.type "itertools.combinations")
  k_MOST_ARROWS : True ∧ mg "MOST_ARROWS" = some (.int 5000 tk.MOST_ARROWS)
  k_MOST_KIND : True ∧ mg "MOST_KIND" = some (.int 6 tk.MOST_KIND)
  k_MOST_MATTERS : True ∧ mg "MOST_MATTERS" = some (.int 8 tk.MOST_MATTERS)
  k_MOST_VALLEYS : True ∧ mg "MOST_VALLEYS" = some (.int 12 tk.MOST_VALLEYS)
  g_BadCustomTree : mg "BadCustomTree" = some (.ref cs.BadCustomTree)
  g_BadKinds : mg "BadKinds" = some (.ref cs.BadKinds)
  g_BadMatter : mg "BadMatter" = some (.ref cs.BadMatter)
  g_BadRows : mg "BadRows" = some (.ref cs.BadRows)
  g_BadTable : mg "BadTable" = some (.ref cs.BadTable)
  g_FoundError : mg "FoundError" = some (.ref cs.FoundError)
  g_Table : mg "Table" = some (.ref cs.Table)
  g_TooMany : mg "TooMany" = some (.ref cs.TooMany)
  g_Unread : mg "Unread" = some (.ref cs.Unread)
  x_BadCustomTree : PySem.W.excIn K cs.BadCustomTree [.type "ValueError", .type "Exception", .type "BaseException", .type "object"] "ValueError.__new__" = true
  e_BadCustomTree : PySem.W.keepIn K (.ref cs.BadCustomTree) = true
  b_BadCustomTree : PySem.W.subIn K (.ref cs.BadCustomTree) (.type "BaseException") = some true
  t_BadCustomTree : PySem.W.typeIn K (.ref cs.BadCustomTree) = some (.type "type")
  r_BadCustomTree : ErrC K cs.FoundError cs.BadCustomTree
  i_BadCustomTree : PySem.W.kitOne K (.ref cs.BadCustomTree) (.ref cs.BadCustomTree) = some true
  v_BadCustomTree : PySem.W.kitOne K (.ref cs.BadCustomTree) (.type "ValueError") = some true
  x_BadKinds : PySem.W.excIn K cs.BadKinds [.type "ValueError", .type "Exception", .type "BaseException", .type "object"] "ValueError.__new__" = true
  e_BadKinds : PySem.W.keepIn K (.ref cs.BadKinds) = true
  b_BadKinds : PySem.W.subIn K (.ref cs.BadKinds) (.type "BaseException") = some true
  t_BadKinds : PySem.W.typeIn K (.ref cs.BadKinds) = some (.type "type")
  r_BadKinds : ErrC K cs.FoundError cs.BadKinds
  i_BadKinds : PySem.W.kitOne K (.ref cs.BadKinds) (.ref cs.BadKinds) = some true
  v_BadKinds : PySem.W.kitOne K (.ref cs.BadKinds) (.type "ValueError") = some true
  x_BadMatter : PySem.W.excIn K cs.BadMatter [.type "ValueError", .type "Exception", .type "BaseException", .type "object"] "ValueError.__new__" = true
  e_BadMatter : PySem.W.keepIn K (.ref cs.BadMatter) = true
  b_BadMatter : PySem.W.subIn K (.ref cs.BadMatter) (.type "BaseException") = some true
  t_BadMatter : PySem.W.typeIn K (.ref cs.BadMatter) = some (.type "type")
  r_BadMatter : ErrC K cs.FoundError cs.BadMatter
  i_BadMatter : PySem.W.kitOne K (.ref cs.BadMatter) (.ref cs.BadMatter) = some true
  v_BadMatter : PySem.W.kitOne K (.ref cs.BadMatter) (.type "ValueError") = some true
  x_BadRows : PySem.W.excIn K cs.BadRows [.type "ValueError", .type "Exception", .type "BaseException", .type "object"] "ValueError.__new__" = true
  e_BadRows : PySem.W.keepIn K (.ref cs.BadRows) = true
  b_BadRows : PySem.W.subIn K (.ref cs.BadRows) (.type "BaseException") = some true
  t_BadRows : PySem.W.typeIn K (.ref cs.BadRows) = some (.type "type")
  r_BadRows : ErrC K cs.FoundError cs.BadRows
  i_BadRows : PySem.W.kitOne K (.ref cs.BadRows) (.ref cs.BadRows) = some true
  v_BadRows : PySem.W.kitOne K (.ref cs.BadRows) (.type "ValueError") = some true
  x_BadTable : PySem.W.excIn K cs.BadTable [.type "ValueError", .type "Exception", .type "BaseException", .type "object"] "ValueError.__new__" = true
  e_BadTable : PySem.W.keepIn K (.ref cs.BadTable) = true
  b_BadTable : PySem.W.subIn K (.ref cs.BadTable) (.type "BaseException") = some true
  t_BadTable : PySem.W.typeIn K (.ref cs.BadTable) = some (.type "type")
  r_BadTable : ErrC K cs.FoundError cs.BadTable
  i_BadTable : PySem.W.kitOne K (.ref cs.BadTable) (.ref cs.BadTable) = some true
  v_BadTable : PySem.W.kitOne K (.ref cs.BadTable) (.type "ValueError") = some true
  ic_Table : InC K cs.Table
  no_Table : ∀ t ∈ ["NoneType", "bool", "int", "str", "list", "tuple", "dict"], PySem.W.kitOne K (.type t) (.ref cs.Table) = some false
  i_Table : PySem.W.kitOne K (.ref cs.Table) (.ref cs.Table) = some true
  na_Table_kinds : NoAttr K cs.Table "kinds"
  na_Table_rows : NoAttr K cs.Table "rows"
  fa_TooMany : PySem.W.findIn K (.ref cs.TooMany) "most" = some none
  r_TooMany : ErrC K cs.FoundError cs.TooMany
  i_TooMany : PySem.W.kitOne K (.ref cs.TooMany) (.ref cs.TooMany) = some true
  x_Unread : PySem.W.excIn K cs.Unread [.type "ValueError", .type "Exception", .type "BaseException", .type "object"] "ValueError.__new__" = true
  e_Unread : PySem.W.keepIn K (.ref cs.Unread) = true
  b_Unread : PySem.W.subIn K (.ref cs.Unread) (.type "BaseException") = some true
  t_Unread : PySem.W.typeIn K (.ref cs.Unread) = some (.type "type")
  r_Unread : ErrC K cs.FoundError cs.Unread
  i_Unread : PySem.W.kitOne K (.ref cs.Unread) (.ref cs.Unread) = some true
  v_Unread : PySem.W.kitOne K (.ref cs.Unread) (.type "ValueError") = some true
end Lw

namespace Lw
open L2 PySem DL
open He (ga ma fAd cT)
abbrev s_law_caught : Stmt := topS 54
abbrev s_good_arrows : Stmt := topS 47
abbrev s_is_number : Stmt := topS 11
abbrev s_is_between : Stmt := topS 12
abbrev s_is_kind : Stmt := topS 20
abbrev s_are_kinds : Stmt := topS 21
abbrev s_is_cell : Stmt := topS 22
abbrev s_is_row_for : Stmt := topS 23
abbrev s_first_unread : Stmt := topS 25
abbrev s_are_rows : Stmt := topS 24
abbrev s_law_put : Stmt := topS 55
abbrev s_law_draw : Stmt := topS 51
abbrev s_law_pick : Stmt := topS 52
abbrev s_law_bad_table : Stmt := topS 71
abbrev s_Table_init : Stmt := inClass (topS 19) 0
abbrev s_check_table : Stmt := topS 26
abbrev s_law_made : Stmt := topS 57
abbrev s_law_begun : Stmt := topS 50
abbrev s_is_rising : Stmt := topS 13
abbrev s_is_lot : Stmt := topS 14
abbrev s_law_mixed : Stmt := topS 53
abbrev s_check_matter : Stmt := topS 27
abbrev s_is_full : Stmt := topS 28
abbrev s_check_full : Stmt := topS 29
abbrev s_used : Stmt := topS 30
abbrev s_do_cross : Stmt := topS 34
abbrev s_law_pairs : Stmt := topS 56
abbrev s_law_crosses : Stmt := topS 65
abbrev s_ties_at : Stmt := topS 32
abbrev s_steps_to : Stmt := topS 33
abbrev s_law_founded : Stmt := topS 60
abbrev s_law_true : Stmt := topS 61
abbrev s_law_any : Stmt := topS 62
abbrev s_law_ringed : Stmt := topS 64
abbrev s_law_near : Stmt := topS 63
abbrev s_law_wide : Stmt := topS 73
abbrev s_law_bad_full : Stmt := topS 72
abbrev s_do_join : Stmt := topS 37
abbrev s_is_pair : Stmt := topS 39
abbrev s_is_custom_tree : Stmt := topS 38
abbrev s_pair_parting : Stmt := topS 41
abbrev s_pair_partings : Stmt := topS 40
abbrev s_law_column : Stmt := topS 58
abbrev s_law_used : Stmt := topS 59
abbrev s_law_joins : Stmt := topS 66
abbrev s_law_side : Stmt := topS 68
abbrev s_law_sides : Stmt := topS 69
abbrev s_law_agree : Stmt := topS 70
abbrev s_custom_trees : Stmt := topS 36
abbrev s_law_custom_trees : Stmt := topS 67
abbrev s_law_turned : Stmt := topS 76
abbrev s_law_drawn : Stmt := topS 78
abbrev s_law_big : Stmt := topS 77
abbrev s_told : Stmt := topS 44
abbrev s_all_told : Stmt := topS 45
abbrev s_more : Stmt := topS 48
abbrev s_any_cross : Stmt := topS 46
abbrev s_law_longer : Stmt := topS 74
abbrev s_law_every_good : Stmt := topS 75
abbrev s_law_is_right : Stmt := topS 79
abbrev s_law : Stmt := topS 80
abbrev s_TooMany_init : Stmt := inClass (topS 8) 0
theorem sc_TooMany_init : FnScope ["self", "most"] ["self", "most"] (defScope s_TooMany_init) := ⟨rfl, rfl, rfl, by decide +kernel, rfl, by decide +kernel, by decide +kernel⟩
def dfs : List He.DefD := [
  ⟨("is_number", none), "is_number", "is_number", defArgs s_is_number, defBody s_is_number, defScope s_is_number, [], []⟩,
  ⟨("is_between", none), "is_between", "is_between", defArgs s_is_between, defBody s_is_between, defScope s_is_between, [], []⟩,
  ⟨("is_kind", none), "is_kind", "is_kind", defArgs s_is_kind, defBody s_is_kind, defScope s_is_kind, [], []⟩,
  ⟨("_are_kinds", none), "_are_kinds", "_are_kinds", defArgs s_are_kinds, defBody s_are_kinds, defScope s_are_kinds, [], []⟩,
  ⟨("is_cell", none), "is_cell", "is_cell", defArgs s_is_cell, defBody s_is_cell, defScope s_is_cell, [], []⟩,
  ⟨("_is_row_for", none), "_is_row_for", "_is_row_for", defArgs s_is_row_for, defBody s_is_row_for, defScope s_is_row_for, [], []⟩,
  ⟨("first_unread", none), "first_unread", "first_unread", defArgs s_first_unread, defBody s_first_unread, defScope s_first_unread, [], []⟩,
  ⟨("_are_rows", none), "_are_rows", "_are_rows", defArgs s_are_rows, defBody s_are_rows, defScope s_are_rows, [], []⟩,
  ⟨("_law_put", none), "_law_put", "_law_put", defArgs s_law_put, defBody s_law_put, defScope s_law_put, [], []⟩,
  ⟨("_law_draw", none), "_law_draw", "_law_draw", defArgs s_law_draw, defBody s_law_draw, defScope s_law_draw, [], []⟩,
  ⟨("_law_pick", none), "_law_pick", "_law_pick", defArgs s_law_pick, defBody s_law_pick, defScope s_law_pick, [], []⟩,
  ⟨("_law_bad_table", none), "_law_bad_table", "_law_bad_table", defArgs s_law_bad_table, defBody s_law_bad_table, defScope s_law_bad_table, [], []⟩,
  ⟨("Table", some "__init__"), "__init__", "Table.__init__", defArgs s_Table_init, defBody s_Table_init, defScope s_Table_init, [], []⟩,
  ⟨("check_table", none), "check_table", "check_table", defArgs s_check_table, defBody s_check_table, defScope s_check_table, [], []⟩,
  ⟨("_law_made", none), "_law_made", "_law_made", defArgs s_law_made, defBody s_law_made, defScope s_law_made, [], []⟩,
  ⟨("_law_begun", none), "_law_begun", "_law_begun", defArgs s_law_begun, defBody s_law_begun, defScope s_law_begun, [], []⟩,
  ⟨("is_rising", none), "is_rising", "is_rising", defArgs s_is_rising, defBody s_is_rising, defScope s_is_rising, [], []⟩,
  ⟨("is_lot", none), "is_lot", "is_lot", defArgs s_is_lot, defBody s_is_lot, defScope s_is_lot, [], []⟩,
  ⟨("_law_mixed", none), "_law_mixed", "_law_mixed", defArgs s_law_mixed, defBody s_law_mixed, defScope s_law_mixed, [], []⟩,
  ⟨("check_matter", none), "check_matter", "check_matter", defArgs s_check_matter, defBody s_check_matter, defScope s_check_matter, [], []⟩,
  ⟨("is_full", none), "is_full", "is_full", defArgs s_is_full, defBody s_is_full, defScope s_is_full, [], []⟩,
  ⟨("check_full", none), "check_full", "check_full", defArgs s_check_full, defBody s_check_full, defScope s_check_full, [], []⟩,
  ⟨("used", none), "used", "used", defArgs s_used, defBody s_used, defScope s_used, [], []⟩,
  ⟨("do_cross", none), "do_cross", "do_cross", defArgs s_do_cross, defBody s_do_cross, defScope s_do_cross, [], []⟩,
  ⟨("_law_pairs", none), "_law_pairs", "_law_pairs", defArgs s_law_pairs, defBody s_law_pairs, defScope s_law_pairs, [], []⟩,
  ⟨("_law_crosses", none), "_law_crosses", "_law_crosses", defArgs s_law_crosses, defBody s_law_crosses, defScope s_law_crosses, [], []⟩,
  ⟨("_ties_at", none), "_ties_at", "_ties_at", defArgs s_ties_at, defBody s_ties_at, defScope s_ties_at, [], []⟩,
  ⟨("steps_to", none), "steps_to", "steps_to", defArgs s_steps_to, defBody s_steps_to, defScope s_steps_to, [], []⟩,
  ⟨("_law_founded", none), "_law_founded", "_law_founded", defArgs s_law_founded, defBody s_law_founded, defScope s_law_founded, [], []⟩,
  ⟨("_law_true", none), "_law_true", "_law_true", defArgs s_law_true, defBody s_law_true, defScope s_law_true, [], []⟩,
  ⟨("_law_any", none), "_law_any", "_law_any", defArgs s_law_any, defBody s_law_any, defScope s_law_any, [], []⟩,
  ⟨("_law_ringed", none), "_law_ringed", "_law_ringed", defArgs s_law_ringed, defBody s_law_ringed, defScope s_law_ringed, [], []⟩,
  ⟨("_law_near", none), "_law_near", "_law_near", defArgs s_law_near, defBody s_law_near, defScope s_law_near, [], []⟩,
  ⟨("_law_wide", none), "_law_wide", "_law_wide", defArgs s_law_wide, defBody s_law_wide, defScope s_law_wide, [], []⟩,
  ⟨("_law_bad_full", none), "_law_bad_full", "_law_bad_full", defArgs s_law_bad_full, defBody s_law_bad_full, defScope s_law_bad_full, [], []⟩,
  ⟨("_do_join", none), "_do_join", "_do_join", defArgs s_do_join, defBody s_do_join, defScope s_do_join, [], []⟩,
  ⟨("_is_pair", none), "_is_pair", "_is_pair", defArgs s_is_pair, defBody s_is_pair, defScope s_is_pair, [], []⟩,
  ⟨("is_custom_tree", none), "is_custom_tree", "is_custom_tree", defArgs s_is_custom_tree, defBody s_is_custom_tree, defScope s_is_custom_tree, [], []⟩,
  ⟨("_pair_parting", none), "_pair_parting", "_pair_parting", defArgs s_pair_parting, defBody s_pair_parting, defScope s_pair_parting, [], []⟩,
  ⟨("pair_partings", none), "pair_partings", "pair_partings", defArgs s_pair_partings, defBody s_pair_partings, defScope s_pair_partings, [], []⟩,
  ⟨("_law_column", none), "_law_column", "_law_column", defArgs s_law_column, defBody s_law_column, defScope s_law_column, [], []⟩,
  ⟨("_law_used", none), "_law_used", "_law_used", defArgs s_law_used, defBody s_law_used, defScope s_law_used, [], []⟩,
  ⟨("_law_joins", none), "_law_joins", "_law_joins", defArgs s_law_joins, defBody s_law_joins, defScope s_law_joins, [], []⟩,
  ⟨("_law_side", none), "_law_side", "_law_side", defArgs s_law_side, defBody s_law_side, defScope s_law_side, [], []⟩,
  ⟨("_law_sides", none), "_law_sides", "_law_sides", defArgs s_law_sides, defBody s_law_sides, defScope s_law_sides, [], []⟩,
  ⟨("_law_agree", none), "_law_agree", "_law_agree", defArgs s_law_agree, defBody s_law_agree, defScope s_law_agree, [], []⟩,
  ⟨("custom_trees", none), "custom_trees", "custom_trees", defArgs s_custom_trees, defBody s_custom_trees, defScope s_custom_trees, [], []⟩,
  ⟨("_law_custom_trees", none), "_law_custom_trees", "_law_custom_trees", defArgs s_law_custom_trees, defBody s_law_custom_trees, defScope s_law_custom_trees, [], []⟩,
  ⟨("_law_turned", none), "_law_turned", "_law_turned", defArgs s_law_turned, defBody s_law_turned, defScope s_law_turned, [], []⟩,
  ⟨("_law_drawn", none), "_law_drawn", "_law_drawn", defArgs s_law_drawn, defBody s_law_drawn, defScope s_law_drawn, [], []⟩,
  ⟨("_law_big", none), "_law_big", "_law_big", defArgs s_law_big, defBody s_law_big, defScope s_law_big, [], []⟩,
  ⟨("_told", none), "_told", "_told", defArgs s_told, defBody s_told, defScope s_told, [], []⟩,
  ⟨("_all_told", none), "_all_told", "_all_told", defArgs s_all_told, defBody s_all_told, defScope s_all_told, [], []⟩,
  ⟨("_more", none), "_more", "_more", defArgs s_more, defBody s_more, defScope s_more, [], []⟩,
  ⟨("_any_cross", none), "_any_cross", "_any_cross", defArgs s_any_cross, defBody s_any_cross, defScope s_any_cross, [], []⟩,
  ⟨("good_arrows", none), "good_arrows", "good_arrows", defArgs s_good_arrows, defBody s_good_arrows, defScope s_good_arrows, [], []⟩,
  ⟨("_law_longer", none), "_law_longer", "_law_longer", defArgs s_law_longer, defBody s_law_longer, defScope s_law_longer, [], []⟩,
  ⟨("_law_every_good", none), "_law_every_good", "_law_every_good", defArgs s_law_every_good, defBody s_law_every_good, defScope s_law_every_good, [], []⟩,
  ⟨("_law_is_right", none), "_law_is_right", "_law_is_right", defArgs s_law_is_right, defBody s_law_is_right, defScope s_law_is_right, [], []⟩,
  ⟨("law", none), "law", "law", defArgs s_law, defBody s_law, defScope s_law, [], []⟩,
  ⟨("_law_caught", none), "_law_caught", "_law_caught", defArgs s_law_caught, defBody s_law_caught, defScope s_law_caught, [], []⟩,
  ⟨("TooMany", some "__init__"), "__init__", "TooMany.__init__", defArgs s_TooMany_init, defBody s_TooMany_init, defScope s_TooMany_init, [], []⟩]
def fcs : List He.Fa := [.free "abs", .free "all", .free "any", .free "bool", .free "enumerate", .free "int", .free "isinstance", .free "len", .free "list", .free "max", .free "min", .free "range", .free "repr", .free "set", .free "sorted", .free "tuple", .free "zip", .int "MOST_ARROWS" 5000, .int "MOST_KIND" 6, .int "MOST_MATTERS" 8, .int "MOST_VALLEYS" 12, .glo "BadCustomTree", .glo "BadKinds", .glo "BadMatter", .glo "BadRows", .glo "BadTable", .glo "FoundError", .glo "Table", .glo "TooMany", .glo "Unread", .glo "is_number", .glo "is_between", .glo "is_kind", .glo "_are_kinds", .glo "is_cell", .glo "_is_row_for", .glo "first_unread", .glo "_are_rows", .glo "_law_put", .glo "_law_draw", .glo "_law_pick", .glo "_law_bad_table", .glo "check_table", .glo "_law_made", .glo "_law_begun", .glo "is_rising", .glo "is_lot", .glo "_law_mixed", .glo "check_matter", .glo "is_full", .glo "check_full", .glo "used", .glo "do_cross", .glo "_law_pairs", .glo "_law_crosses", .glo "_ties_at", .glo "steps_to", .glo "_law_founded", .glo "_law_true", .glo "_law_any", .glo "_law_ringed", .glo "_law_near", .glo "_law_wide", .glo "_law_bad_full", .glo "_do_join", .glo "_is_pair", .glo "is_custom_tree", .glo "_pair_parting", .glo "pair_partings", .glo "_law_column", .glo "_law_used", .glo "_law_joins", .glo "_law_side", .glo "_law_sides", .glo "_law_agree", .glo "custom_trees", .glo "_law_custom_trees", .glo "_law_turned", .glo "_law_drawn", .glo "_law_big", .glo "_told", .glo "_all_told", .glo "_more", .glo "_any_cross", .glo "good_arrows", .glo "_law_longer", .glo "_law_every_good", .glo "_law_is_right", .glo "law", .glo "_law_caught"]
def tfs : List (He.Defn × Str) := [(("_law_bad_full", none), "_law_bad_full.<locals>.<lambda>"), (("law", none), "law.<locals>.<lambda>")]
def csK (K : PySem.W.Frag) : Cs := ⟨ga K "BadCustomTree", ga K "BadKinds", ga K "BadMatter", ga K "BadRows", ga K "BadTable", ga K "FoundError", ga K "Table", ga K "TooMany", ga K "Unread"⟩
def exs (K : PySem.W.Frag) : Bool := errFB K (ga K "FoundError") (ga K "BadCustomTree") && (errFB K (ga K "FoundError") (ga K "BadKinds") && (errFB K (ga K "FoundError") (ga K "BadMatter") && (errFB K (ga K "FoundError") (ga K "BadRows") && (errFB K (ga K "FoundError") (ga K "BadTable") && (errFB K (ga K "FoundError") (ga K "Unread") && (x1B K (ga K "FoundError") (ga K "TooMany") "most" && (clsFB K (ga K "Table") ["kinds", "rows"] && (mkB K (ga K "Table") && (He.eqO (PySem.W.nsIn K mainGlobals "combinations") (some (some (.type "itertools.combinations"))) && (apartB K tfs))))))))))
def loose0 : List PySem.Str := ["FoundError", "BadCustomTree", "BadKinds", "BadMatter", "BadRows", "BadTable", "TooMany", "Unread", "is_number", "is_between", "is_rising", "is_lot", "MOST_MATTERS", "MOST_KIND", "MOST_VALLEYS", "Table", "is_kind", "_are_kinds", "is_cell", "_is_row_for", "_are_rows", "first_unread", "check_table", "check_matter", "is_full", "check_full", "used", "_ties_at", "steps_to", "do_cross"]
def loose1 : List PySem.Str := ["custom_trees", "_do_join", "is_custom_tree", "_is_pair", "pair_partings", "_pair_parting", "MOST_ARROWS", "_told", "_all_told", "_any_cross", "good_arrows", "_more", "_law_begun", "_law_draw", "_law_pick", "_law_mixed", "_law_caught", "_law_put", "_law_pairs", "_law_made", "_law_column", "_law_used", "_law_founded", "_law_true", "_law_any", "_law_near", "_law_ringed", "_law_crosses", "_law_joins", "_law_custom_trees"]
def loose2 : List PySem.Str := ["_law_side", "_law_sides", "_law_agree", "_law_bad_table", "_law_bad_full", "_law_wide", "_law_longer", "_law_every_good", "_law_turned", "_law_big", "_law_drawn", "_law_is_right"]
abbrev loose : List PySem.Str := loose0 ++ loose1 ++ loose2
abbrev Rw : PySem.W.OpenRow := PySem.W.OpenLaw.row PySem.Challenge.rw_oncefound_k38_all_good_arrows
abbrev tfd : List He.Defn := tfs.map (·.1)
abbrev hk : PySem.W.Hook := He.hookX 5 fcs dfs [] tfd exs
def ob (s : PySem.W.SharedT) : He.AlX := He.obsX 5 fcs dfs [] tfd exs (HandSHeadRun.getT s)
theorem ob_eq (s : PySem.W.SharedT) : ob s = hk.obs s.abs := He.obsX_eq (HandSHeadRun.getT_eq s)
set_option maxHeartbeats 0 in
theorem run (w : PySem.World) : HandSHeadRun.RunEqI Rw (PySem.W.view Rw.prog [0, 80]) hk ob 6000 loose w := by
  unfold HandSHeadRun.RunEqI
  kernel_rfl

end Lw
/-! a tuple times 1 is the tuple -/
namespace RZ
open PySem PySem.Spec PyProof.Rows L2
open AutoSeq1 (wpAny_loadPart')
theorem meets_mul1 (l : Addr) (items : Array Value) (n : Nat) (dd : Option Addr) (sl : Array (Option Value)) (u : Tok) :
    Meets (Builtin.«tuple.__mul__» ⟨[.ref l, .int 1 u], []⟩) (fun _ R s => s.heap.get? l = some { cls := .type "tuple", dict := dd, data := .seq items n, slots := sl } ∧ R (.ok (.ret (.ref l))) s) :=
  .of_wp fun prog w A R s h => by
    obtain ⟨hp, g, d, tk, os⟩ := s
    obtain ⟨hl, h⟩ := h
    unfold Builtin.«tuple.__mul__»
    wp_walk using wpAny_loadPart' hl
    exact ⟨_, rfl, h⟩
theorem seq_mul1 {prog : Program} {w : World} {A : Around} {E : Value → Shared → Prop} {s : Shared} {l : Addr} {items : Array Value} {n : Nat} {dd : Option Addr} {sl : Array (Option Value)} {u : Tok} {Q : Value → Shared → Prop}
    (hl : s.heap.get? l = some { cls := .type "tuple", dict := dd, data := .seq items n, slots := sl }) (h : Q (.ref l) s) : wpAny (model prog w) A (sequenceRepeat (.builtin "tuple.__mul__") (.ref l) (.int 1 u)) Q E s := by
  have hT : s.TypeIs (.ref l) "tuple" := ⟨_, hl, rfl⟩
  have hI : s.TypeIs (.int 1 u) "int" := rfl
  unfold sequenceRepeat
  refine wpAny_bind (wpAny_specialOf hI F.slot_int_index.lookup ?_)
  dsimp only
  rw [if_neg (by decide)]
  refine wpAny_bind (wpAny_rule ?_)
  exact call_meets F.slot_tuple_mul hT F.entry_tuple_mul (F.args_tuple_mul_2 _ _) (meets_mul1 l items n dd sl u) ⟨hl, h⟩
theorem wp_mul1 {prog : Program} {w : World} {A : Around} {E : Value → Shared → Prop} {s : Shared} {l : Addr} {items : Array Value} {n : Nat} {dd : Option Addr} {sl : Array (Option Value)} {u : Tok} {Q : Value → Shared → Prop}
    (hl : s.heap.get? l = some { cls := .type "tuple", dict := dd, data := .seq items n, slots := sl }) (h : Q (.ref l) s) : wpAny (model prog w) A (binaryOp .Mult (.ref l) (.int 1 u)) Q E s := by
  have hT : s.TypeIs (.ref l) "tuple" := ⟨_, hl, rfl⟩
  unfold binaryOp
  refine wpAny_holding ?_
  dsimp only [Operator.info]
  unfold binaryOp1
  dsimp only
  refine wpAny_bind (wpAny_bind (wpAny_typeOf hT ?_))
  refine wpAny_bind (wpAny_pure ?_)
  rw [noFill_tuple_mul]
  refine wpAny_bind (wpAny_pure ?_)
  rw [if_neg (by decide)]
  rw [show fillsNumberSlot (.type "int") "mul" = pure true by rfl]
  refine wpAny_bind (wpAny_pure ?_)
  rw [if_neg (by decide), if_neg (by decide), if_neg (by decide)]
  refine wpAny_bind (wpAny_pure ?_)
  rw [if_neg (by decide), if_neg (by decide), if_neg (by decide), if_pos (by decide)]
  have hI : s.TypeIs (.int 1 u) "int" := rfl
  refine wpAny_bind ?_
  unfold tryMethod
  refine wpAny_bind (wpAny_callSpecial?_slot hI F.slot_int_rmul (call_meets F.slot_int_rmul hI F.entry_int_rmul (F.args_int_rmul_2 _ _) (int_rmul_tuple 1 u l items n dd sl) ⟨hl, ?_⟩))
  show wpAny _ _ (pure none) _ _ s
  refine wpAny_pure ?_
  show wpAny _ _ (pure none) _ _ s
  refine wpAny_pure ?_
  dsimp only
  refine wpAny_bind (wpAny_typeOf hT ?_)
  rw [repeat_tuple]
  refine wpAny_bind (wpAny_pure ?_)
  show wpAny _ _ (sequenceRepeat _ _ _) _ _ s
  exact seq_mul1 hl h
def rRep1 (K : PySem.W.Frag) : R2 := fun x y H Q => ∃ (l : Addr) (xs : List V), x = .ref l ∧ y = .int 1 ∧ SqT K H l xs ∧ Q x H
theorem op_rep1 {X : Cx} : OpR X (binaryOp .Mult) (rRep1 X.K) := by
  intro pins s σ H x y v u Q I rx ry h
  obtain ⟨l, xs, rfl, rfl, hx, q⟩ := h
  cases rx
  obtain ⟨t, rfl⟩ := ry
  obtain ⟨its, r1, p1, _⟩ := I.tuple hx
  obtain ⟨o, ho, hc, n, hd⟩ := p1
  obtain ⟨oc, od, dt, sl⟩ := o
  dsimp only at hc hd
  subst hc hd
  exact wp_mul1 ho ⟨.ref l, H, I, rfl, q⟩
end RZ
namespace DL
open L2 PySem PySem.Spec PyProof.Rows
open Evl (Ex ex_l ex_t sz_of)
section
variable {K : PySem.W.Frag}
def rMul1 (K : PySem.W.Frag) : R2 := fun x y H Q => RZ.rRep1 K x y H Q ∨ rMulU K x y H Q
theorem op_mul1 {X : Cx} : OpR X (binaryOp .Mult) (rMul1 X.K) := OpR.or RZ.op_rep1 op_mulU
def mulD1 : D → D → (D → Prop) → Prop
  | .tup xs, .int j, k => (j = 1 ∧ k (.tup xs)) ∨ (xs ≠ [] ∧ 2 ≤ j ∧ j ≤ 1000 ∧ xs.length ≤ 1000 ∧ k (.tup (List.replicate j.toNat xs).flatten))
  | a, b, k => mulD a b k
theorem o2_mul1 : Op2 K (rMul1 K) mulD1 := by
  intro T S x y a b Hb H n P Q w hx hy h q
  unfold mulD1 at h
  split at h
  · rcases h with ⟨rfl, h⟩ | h
    · cases hx with
      | @tup l vs ds h1 h2 =>
        cases hy
        exact .inl ⟨l, vs, rfl, rfl, ex_t w.ex h1, q.now w (.tup h1 h2) h⟩
    · exact .inr (o2_mul w hx hy h q)
  · exact .inr (o2_mul w hx hy h q)
end
end DL

/-! set comprehensions over any kind of things, told by what is new and what is added -/
namespace SCo
open L2 PySem PySem.Spec PyProof.Rows PpSet
/-- what stands where a set was just made -/
abbrev newO (w : World) : Obj := { cls := .type "set", dict := none, data := .set #[] 0 (.fresh 0 0 (!w.params.followText "set-order")) }
/-- the way in which a kind of things is gathered: what a new set is, what one more makes of it -/
structure Kd (prog : Program) (w : World) where
  o0 : Addr → HO
  one : Addr → V → Hp → (Hp → Prop) → Prop
  new : ∀ (H : Hp) (h : Heap), ObjOk prog w H (h.push (newO w)) h.objs.size (o0 h.objs.size)
  add : ∀ {X : Cx} {pins : List (Addr × Obj)} {σ : L2.St} {H : Hp} {s : Shared} {E : Value → Shared → Prop} {D : Addr} {y : V} {v : Value} {Nx : Hp → Prop} {Q : Value → Shared → Prop}, X.prog = prog → X.w = w → Inv X pins σ H s → RelV y v → one D y H Nx →
    (∀ s' H', Inv X pins σ H' s' → Nx H' → Q .none s') → wpAny (model X.prog X.w) X.A (call (.builtin "set.add") [.ref D, v]) Q E s
variable {X : Cx}
def tSc (k : Kd X.prog X.w) (wi : TI) (g : TG) (tt : TT) (te : TE) (vs : List Nat) : TE := fun σ H Q => wi σ H fun J H1 => ∀ D, H1 D = none →
  ∃ W : Nat → Nat → Hp → Prop, (∃ m, W 0 m (upd H1 D (k.o0 D))) ∧ ∀ i m H2, W i m H2 → (J.stop i H2 ∧ Q (.ref D) H2) ∨
    (J.go i H2 ∧ ∃ Nx : Hp → Prop, (∀ H3, Nx H3 → ∃ m2, m2 < m ∧ W (i + 1) m2 H3) ∧
      ∀ x H3, J.yld i H2 x H3 → g x (wipe σ vs) H3 fun σ4 H4 => wipe σ4 vs = wipe σ vs ∧ tt σ4 H4 fun b H5 => if b = true then te σ4 H5 fun y H6 => k.one D y H6 Nx else Nx H5)
theorem pe_sc (k : Kd X.prog X.w) {elt tg iter : Expr} {ifs : List Expr} {scope : Scope} {own : List (PySem.Str × Nat)} {pos : Pos} {wi : TI} {g : TG} {tt : TT} {te : TE} (calm : X.calm = true) (nod : X.N.Nodup) (piI : PI X tg iter wi) (blk : BlkOk X.N X.env.scope scope own)
    (gG : ∀ (s0 : Shared) (H0 : Hp) (C0 : Addr) (cl0 : List (PySem.Str × Addr)) (fp0 : List Addr), PG (X.blk s0 H0 scope (compEnvC scope cl0 C0 X.env) fp0) tg g)
    (gT : ∀ (s0 : Shared) (H0 : Hp) (C0 : Addr) (cl0 : List (PySem.Str × Addr)) (fp0 : List Addr), PTs (X.blk s0 H0 scope (compEnvC scope cl0 C0 X.env) fp0) ifs tt)
    (gE : ∀ (s0 : Shared) (H0 : Hp) (C0 : Addr) (cl0 : List (PySem.Str × Addr)) (fp0 : List Addr), PE (X.blk s0 H0 scope (compEnvC scope cl0 C0 X.env) fp0) elt te)
    (fold : ∀ x, foldedSetIterable iter X.env x = pure x := by intro _; rfl) : PE X (.SetComp elt [⟨tg, iter, ifs, 0⟩] scope pos) (tSc k wi g tt te (own.map (·.2))) := by
  refine ⟨fun pins s σ H Q inv hyp => ?_⟩
  rw [eval_SetComp]
  have cellOf : ∀ y ∈ scope.names, y.2 = .free → ∃ c, X.env.cells.lookup y.1 = some c := fun y my ey => (blk.free y my ey).elim (fun z => inv.ok.has _ (.inl z)) (fun z => inv.ok.has _ (.inr z))
  refine wpAny_comprehension_free rfl fold (closure_ok cellOf) blk.kind (fun y my ey => by rw [blk.uniq y my, ey]) (thn (piI.run pins s σ H _ inv hyp) fun _ sA hA => thn hA fun _ sB ⟨it, fp, stn, J, HB, eit, iB, trk, stB, fpB, rest⟩ => ?_)
  subst eit
  refine newSet_ok (newEnv_comp ?_)
  obtain ⟨D, eD⟩ : ∃ D, D = sB.heap.objs.size := ⟨_, rfl⟩
  have noD : HB D = none := iB.hok.fresh (Nat.le_of_eq eD.symm)
  obtain ⟨W, ⟨m0, start⟩, walk⟩ := rest D noD
  rw [← eD]
  obtain ⟨sC, eC⟩ : ∃ sC : Shared, sC = { sB with heap := sB.heap.push (newO X.w) } := ⟨_, rfl⟩
  have hC : sC.heap = sB.heap.push (newO X.w) := by rw [eC]
  obtain ⟨HC, eHC⟩ : ∃ HC, HC = upd HB D (k.o0 D) := ⟨_, rfl⟩
  have iC : Inv X pins σ HC sC := by
    rw [eC, eHC]
    exact iB.laid (t' := sB.toks) (fun _ _ q => Heap.get?_push_of_some _ q) (Nat.le_of_eq eD.symm) (by rw [eD]; exact k.new _ _)
  have old : ∀ b ∈ fp, b < sB.heap.objs.size := fun b mb => (trk.obj _ _ stB b mb).elim fun _ z => Heap.lt_size z.1
  have fpC : ∀ b ∈ fp, FpOk X pins HC b ∧ b < sC.heap.objs.size := fun b mb => by
    have lt := old b mb
    have neD : b ≠ D := fun z => by rw [z, eD] at lt; exact Nat.lt_irrefl _ lt
    exact ⟨⟨by rw [eHC, upd_ne neD]; exact (fpB b mb).1, (fpB b mb).2⟩, by rw [hC, Heap.size_push]; exact Nat.lt_succ_of_lt lt⟩
  have stC : stn 0 sC.heap := trk.keep _ _ _ stB fun b _ o q => by rw [hC]; exact Heap.get?_push_of_some _ q
  have noFp : ∀ b ∈ fp, HC b = none := fun b mb => (fpC b mb).1.1
  have iD := block_start iC blk nod fpC
  obtain ⟨C, eCs⟩ : ∃ C, C = sC.heap.objs.size := ⟨_, rfl⟩
  have aG := gG sC HC C (cellsFrom (C + 1) scope.names (cloFrom X.env.cells scope.names [])) fp
  have aT := gT sC HC C (cellsFrom (C + 1) scope.names (cloFrom X.env.cells scope.names [])) fp
  have aE := gE sC HC C (cellsFrom (C + 1) scope.names (cloFrom X.env.cells scope.names [])) fp
  rw [← eC]
  rw [← eCs] at iD ⊢
  show codeAny (model X.prog X.w) X.A (.compStart (.SetComp elt [⟨tg, iter, ifs, 0⟩] scope pos) 0 (.ref it) (.ref D) (compEnvC scope (cellsFrom (C + 1) scope.names (cloFrom X.env.cells scope.names [])) C X.env))
    (compPost (model X.prog X.w) X.A X.xe none (EP X pins σ Q) (.ref D) C) { sC with heap := pushCells (sC.heap.push { cls := .type "dict", data := .dict #[] }) scope.names }
  obtain ⟨ce, ece⟩ : ∃ ce, ce = compEnvC scope (cellsFrom (C + 1) scope.names (cloFrom X.env.cells scope.names [])) C X.env := ⟨_, rfl⟩
  have locC : ce.locals = C := by rw [ece]; rfl
  rw [← ece] at iD aG aT aE ⊢
  obtain ⟨sD, eSD⟩ : ∃ sD : Shared, sD = { sC with heap := pushCells (sC.heap.push { cls := .type "dict", data := .dict #[] }) scope.names } := ⟨_, rfl⟩
  rw [← eSD] at iD ⊢
  have stD : stn 0 sD.heap := trk.keep _ _ _ stC fun b _ o q => by rw [eSD]; exact pushCells_keeps _ _ _ _ (Heap.get?_push_of_some _ q)
  have still : ∀ {σ' : L2.St} {H' : Hp} {s' : Shared}, Inv (X.blk sC HC scope ce fp) [] σ' H' s' → (∀ b ∈ fp, H' b = none) → ∀ b ∈ fp, FpOk (X.blk sC HC scope ce fp) [] H' b := fun i' n' b mb =>
    ⟨n' b mb, (i'.ok.exf b mb).1, i'.ok.exfs b mb, .inl mb, fun _ _ q => (i'.ok.exf b mb).2 _ _ q, fun p mp => nomatch (show p ∈ ([] : List (Addr × Obj)) from mp)⟩
  have turns : codeAny (model X.prog X.w) X.A (.compLoop (.SetComp elt [⟨tg, iter, ifs, 0⟩] scope pos) 0 (.ref it) (.ref D) ce) (compPost (model X.prog X.w) X.A X.xe none (EP X pins σ Q) (.ref D) C) sD := by
    refine compLoopS_any (fun n s' => ∃ i H', Inv (X.blk sC HC scope ce fp) [] (wipe σ (own.map (·.2))) H' s' ∧ stn i s'.heap ∧ (∀ b ∈ fp, H' b = none) ∧ W i n H') (fun n sE hE => ?_) m0 ⟨0, HC, iD, stD, noFp, by rw [eHC]; exact start⟩
    obtain ⟨i, HE, iE, stE, noE, wE⟩ := hE
    rcases walk i n HE wE with ⟨stop, last⟩ | ⟨go, Nx, back, turn⟩
    · refine thnF (trk.done (X.blk sC HC scope ce fp) rfl rfl rfl calm i [] sE _ HE (fun _ _ => False) iE (still iE noE) stE stop) fun r sF ⟨er, iF⟩ => ?_
      subst er
      have iX : Inv X pins σ HE sF := iC.call' (ch := fp) iF.os iF.base iF.hok iF.bare fun b mb => ⟨(fpC b mb).1.2.2.2.1, (fpC b mb).1.2.1, (fpC b mb).1.2.2.2.2.1, (fpC b mb).1.2.2.2.2.2⟩
      have noC : HE C = none := by have z : HE ce.locals = none := iF.free; rw [locC] at z; exact z
      obtain ⟨m, ns, _⟩ := iF.loc
      have ns : sF.heap.Ns ce.locals m := ns
      rw [locC] at ns
      obtain ⟨f0, f1, f2, f3, f4, f5⟩ := iC.fpOk (Nat.le_of_eq eCs.symm) noC
      exact ⟨m, ns, fun _ sb => ⟨.ref D, HE, iX.turned (t' := sF.toks) (fun b o nb q => (sb.2 b nb).trans q) f0 f1 f3 f4 f5, rfl, last⟩⟩
    · refine thnF (trk.item (X.blk sC HC scope ce fp) rfl rfl rfl calm i [] sE _ HE (fun _ _ => False) iE (still iE noE) stE go) fun r sF ⟨u, er, hF⟩ => ?_
      subst er
      refine thnF hF fun _ sG ⟨x, HG, iG, rG, yG, stG, noG⟩ => ?_
      refine thnF (aG.run _ sG _ HG x u _ (iG.pinned (still iG noG) (trk.obj _ _ stG)) rG (turn x HG yG)) fun _ sK ⟨σK, HK, iK, wK, qK⟩ => ?_
      refine thnF (aT.run _ sK σK HK _ iK qK) fun b sL ⟨HL, iL, qL⟩ => ?_
      have around : ∀ {sM : Shared} {HM : Hp}, Inv (X.blk sC HC scope ce fp) ([] ++ pinsAt fp sG.heap) σK HM sM → Nx HM → ∃ m, m < n ∧ ∃ i H', Inv (X.blk sC HC scope ce fp) [] (wipe σ (own.map (·.2))) H' sM ∧ stn i sM.heap ∧ (∀ b ∈ fp, H' b = none) ∧ W i m H' := fun {sM HM} iM nM => by
        obtain ⟨m2, lt2, w2⟩ := back HM nM
        have pinned : ∀ b ∈ fp, ∀ o, sG.heap.get? b = some o → sM.heap.get? b = some o ∧ HM b = none := fun b mb o q =>
          have z := iM.pin (b, o) (List.mem_append_right _ (List.mem_append_right _ (mem_pinsAt mb q)))
          ⟨z.1, z.2.1⟩
        refine ⟨m2, lt2, i + 1, HM, (iM.unpinned (pins := [])).weak (by rw [← wK, wipe_length]) (fun j v q => by rw [← wK] at q; exact (wipe_some q).1), trk.keep _ _ _ stG fun b mb o q => (pinned b mb o q).1, fun b mb => ?_, w2⟩
        obtain ⟨o, q, _⟩ := trk.obj _ _ stG b mb
        exact (pinned b mb o q).2
      cases b with
      | false => exact around iL (by simpa using qL)
      | true =>
        have qL : te σK HL fun y H6 => k.one D y H6 Nx := by simpa using qL
        exact thnF (aE.run _ sL σK HL _ iL qL) fun v sM ⟨y, HM, iM, rM, qM⟩ => k.add (X := X.blk sC HC scope ce fp) rfl rfl iM rM qM fun _ _ iN nN => around iN nN
  exact codeAny_compStart_set turns (trk.self X.A 0 _ _ _ stD turns)
/-! ### ints -/
def intKd (prog : Program) (w : World) : Kd prog w where
  o0 := fun D => SetO w D (fun _ => false) 0
  one := fun D y H Nx => ∃ (c : Int) (S : Int → Bool) (n : Nat), y = .int c ∧ H D = some (SetO w D S n) ∧ n + 1 < scanBound ∧ Nx (upd H D (SetO w D (fun j => S j || decide (j = c)) (if S c = true then n else n + 1)))
  new := fun H h => setO_new (setR_fresh w)
  add := by
    rintro X pins σ H s E D y v Nx Q rfl rfl inv rv ⟨c, S, n, rfl, hD, room, nx⟩ fin
    obtain ⟨tk, rfl⟩ := rv
    refine setR_add (setO_get inv hD) room fun h' sb new => ?_
    have have' : ∃ u, h'.get? D = some u := by
      obtain ⟨o, _, _, _, ho, _⟩ := id new
      exact ⟨o, ho⟩
    exact fin _ _ (inv.write (e := D) (t' := s.toks + 1) (by rw [hD]; trivial) (.inl rfl) (fun b u nb q => (sb.2 b nb).trans q) have' (setO_new new)) nx
end SCo

/-! set(xs) of a list of ints -/
namespace SCo
open L2 PySem PySem.Spec PyProof.Rows
section
variable {P : Program} {w : World} {A : Around} {E : Value → Shared → Prop} {s : Shared}
theorem set_of_ints {l : Addr} {its : Array Value} (ns : List Int) {Q : Value → Shared → Prop} (calm : A.handled = none) (isl : s.heap.IsList l its) (isI : IntsAre its.toList ns) (few : ns.length + 1 < scanBound)
    (fin : ∀ (h' : Heap) (tk c : Nat), SetR w h' s.heap.objs.size (fun j => decide (j ∈ ns)) c → c ≤ ns.length → (∀ b o, s.heap.get? b = some o → h'.get? b = some o) → Q (.ref s.heap.objs.size) { s with heap := h', toks := tk }) :
    wpAny (model P w) A (call (.type "set") [.ref l]) Q E s := by
  have many : its.size = ns.length := by have q := isI.length; rwa [Array.length_toList] at q
  obtain ⟨_, _, mro⟩ := F.called_set.mro
  have f1 := F.called_set.made
  have f2 := F.called_set.sub
  have f3 := F.called_set.notType
  have f4 := F.called_set.canCreate
  have f5 := F.typeCall_set_1 (.ref l)
  refine wpAny_call (codeAny_of_tree (show wpAny _ _ (callAny (.type "set") _) _ _ _ from wpAny_pure ⟨Code.quiet_builtin _ (by decide +kernel), codeAny_builtin PySem.F.entry_type_call ?_⟩))
  rw [Around.under_plain (weight_type_call_type "set" [.ref l] []) rfl]
  repeat (any_goals (first | assumption | wp_step))
  refine codeAny_mono (code_set_led1 (.ref l) (E := E) (Q₁ := fun obj s1 => obj = .ref s.heap.objs.size ∧ s1 = { s with heap := s.heap.push (newO w) }) ⟨rfl, rfl⟩) fun r s1 hr => ?_
  rcases r with e | fl
  · exact hr
  rcases fl with _ | obj | _ | _
  case ok.ret =>
    obtain ⟨rfl, rfl⟩ := hr
    have at1 : (s.heap.push (newO w)).get? s.heap.objs.size = some (newO w) := Heap.get?_push_size _ rfl
    have ty1 : Shared.TypeIs { s with heap := s.heap.push (newO w) } (.ref s.heap.objs.size) "set" := ⟨_, at1, rfl⟩
    have f6 := F.called_set.init.lookup
    have f7 := F.called_set.init.bind (.ref s.heap.objs.size)
    repeat (any_goals (first | assumption | wp_step))
    refine codeAny_mono (codeAny_call_builtin (R := wants (fun r s2 => r = .none ∧ ∃ h' tk c, s2 = { s with heap := h', toks := tk } ∧ SetR w h' s.heap.objs.size (fun j => decide (j ∈ ns)) c ∧ c ≤ ns.length ∧ (∀ b o, s.heap.get? b = some o → h'.get? b = some o)) E)
      F.called_set.init.plain F.entry_set_init (check_set_init_1 ty1 ?_)) fun r2 s2 hr2 => ?_
    · obtain ⟨⟨oc, od, dt, os⟩, ol, oc2, nl, od2⟩ := isl
      simp only at oc2 od2
      subst oc2 od2
      have at2 : (s.heap.push (newO w)).get? l = some { cls := .type "list", dict := od, data := .seq its nl, slots := os } := Heap.get?_push_of_some _ ol
      have g1 := F.sub_list_set
      have g2 := F.sub_list_frozenset
      have g3 : (Value.type "list" == Value.type "dict") = false := by decide
      have isl2 : (s.heap.push (newO w)).IsList l its := ⟨_, at2, rfl, nl, rfl⟩
      unfold Builtin.«set.__init__» noKeywords Builtin.Frozenset.updateFrom
      generalize hPI : pyIter = PI
      wp_walk
      subst hPI
      refine wpAny_pyIter_list isl2 (wpAny_bind (wpAny_runValue ?_))
      have ltl : l < s.heap.objs.size := Heap.lt_size ol
      have calm3 : A.in1.in1.in1.handled = none := by simp [calm]
      have size1 : (s.heap.push (newO w)).objs.size = s.heap.objs.size + 1 := Heap.size_push ..
      have ne1 : l ≠ (s.heap.push (newO w)).objs.size := by rw [size1]; exact Nat.ne_of_lt (Nat.lt_succ_of_lt ltl)
      have out1 : s.heap.objs.size ∉ [(s.heap.push (newO w)).objs.size, l] := by
        rw [size1]
        simp only [List.mem_cons, List.not_mem_nil, or_false, not_or]
        exact ⟨Nat.ne_of_lt (Nat.lt_succ_self _), Nat.ne_of_gt ltl⟩
      refine set_update_ints ((Walks.list calm3 _ l ne1 its).toS) s.heap.objs.size out1 ns many few (fun i v hv => ?_) (its.size - 0) 0 _ (by omega) (Nat.zero_le _) ⟨⟨_, Heap.get?_push_size _ rfl, rfl, rfl⟩, isl2.push _⟩ ⟨0, Nat.le_refl 0, setR_new_at (Heap.get?_push_of_some _ at1)⟩ fun s3 c3 mv le3 hs3 => ?_
      · have lt : i < ns.length := by rw [← many]; exact (Array.getElem?_eq_some_iff.mp hv).1
        obtain ⟨t, e⟩ := PyProof.Rows.IntsAre.int_at isI i v (by rw [Array.getElem?_toList]; exact hv)
        exact ⟨ns[i], t, List.getElem?_eq_getElem lt, by rw [e, List.getD_eq_getElem?_getD, List.getElem?_eq_getElem lt]; rfl⟩
      · obtain ⟨h3, q1, q2, tk3, q3⟩ := s3
        cases (mv.gens : q1 = s.gens)
        cases (mv.drawn : q2 = s.drawn)
        cases (mv.os : q3 = s.os)
        refine wpAny_pure (show wpAny _ _ (ret Value.none) _ _ _ from wpAny_pure ⟨rfl, h3, tk3, c3, rfl, hs3, many ▸ le3, fun b o e => ?_⟩)
        have lt := Heap.lt_size e
        refine mv.heap b o ?_ (Heap.get?_push_of_some _ (Heap.get?_push_of_some _ e))
        simp only [List.mem_cons, List.not_mem_nil, or_false, not_or]
        rw [size1]
        exact ⟨Nat.ne_of_lt lt, Nat.ne_of_lt (Nat.lt_succ_of_lt lt)⟩
    · rcases r2 with e | fl2
      · exact hr2
      rcases fl2 with _ | r | _ | _
      case ok.ret =>
        obtain ⟨rfl, h', tk, c', rfl, z1, z2, z3⟩ := hr2
        repeat (any_goals (first | assumption | wp_step))
        exact fin _ _ _ z1 z2 z3
      all_goals exact hr2.elim
  all_goals exact hr.elim
end
variable {X : Cx}
/-- set(xs), xs a list of ints, as a thing of the heap -/
def rSetL (K : PySem.W.Frag) (w : World) : List V → Hp → VK → Prop := fun vs H Q => ∃ (a : Addr) (ns : List Int), vs = [.ref a] ∧ SqL K H a (ns.map V.int) ∧ ns.length < 2000 ∧ ∀ (p : Addr) (n : Nat), n ≤ ns.length → H p = none → Q (.ref p) (upd H p (SetO w p (fun j => decide (j ∈ ns)) n))
theorem vals_ints' : ∀ {ns : List Int} {us : List Value}, Vals (ns.map V.int) us → IntsAre us ns
  | [], _, h => by cases h; exact .nil
  | n :: ns, _, h => by
    cases h with
    | cons r rr =>
      obtain ⟨t, r⟩ := r
      subst r
      exact .cons n t (vals_ints' rr)
theorem cr_setL (calm : X.calm = true) : CallR X (.type "set") (rSetL X.K X.w) := by
  intro pins s σ H vs us Q I r h
  obtain ⟨a, ns, rfl, ha, few, q⟩ := h
  rw [Vals.ref1 r]
  obtain ⟨its, rv, p1, _⟩ := I.list ha
  have e2000 : (2000 : Nat) + 1 < scanBound := by decide
  refine set_of_ints ns (I.ok.hd calm) p1.isList (by simpa using vals_ints' rv) (by omega) fun h' tk c hs hc hk => ?_
  have J : Inv X pins σ (upd H s.heap.objs.size (SetO X.w s.heap.objs.size (fun j => decide (j ∈ ns)) c)) { s with heap := h', toks := tk } := I.laid (t' := tk) hk (Nat.le_refl _) (setO_new hs)
  exact ⟨.ref _, _, J, rfl, q _ c hc (I.hok.fresh (Nat.le_refl _))⟩
end SCo

/-! sorted({..}) and sorted(set(xs)) of ints, as data -/
namespace SCo
open L2 PySem PySem.Spec PyProof.Rows
theorem heap_of : ∀ n : Nat, ∃ h : Heap, h.objs.size = n
  | 0 => ⟨{ objs := #[] }, rfl⟩
  | n + 1 => by
    obtain ⟨h, e⟩ := heap_of n
    exact ⟨h.push { cls := .type "list", data := .seq #[] }, by rw [Heap.size_push, e]⟩
theorem set_no_code {w : World} {a c : Addr} {S : Int → Bool} {n : Nat} {q : PySem.Str} (z : SetO w a S n = LamX.CodeO c q) (e : c = a) : False := by
  subst e
  unfold SetO LamX.CodeO at z
  obtain ⟨h, hs⟩ := heap_of c
  have g : (h.push { cls := .type "code", data := .fields #[.none, .str q 0] }).get? c = some { cls := .type "code", data := .fields #[.none, .str q 0] } := by
    rw [← hs]
    exact Heap.get?_push_size _ rfl
  have z2 := congrFun (HO.ext.inj z) (h.push { cls := .type "code", data := .fields #[.none, .str q 0] })
  have r : SetR w (h.push { cls := .type "code", data := .fields #[.none, .str q 0] }) c S n := by
    rw [z2]
    exact ⟨_, #[.none, .str q 0], 0, g, rfl, rfl⟩
  obtain ⟨o, es, ep, t, h1, _, h2, _⟩ := r
  rw [g] at h1
  cases h1
  cases h2
end SCo
namespace DL
open L2 PySem PySem.Spec PyProof.Rows SCo
open Evl (Ex ex_l ex_t sz_of)
theorem setO_no {w : PySem.World} {a : Addr} {S : Int → Bool} {n : Nat} : ∀ ps, SetO w a S n ≠ .tbl ps := fun ps z => by unfold SetO at z; cases z
section
variable {P0 : Program} {w0 : PySem.World} {K : PySem.W.Frag} {T : Tb} {S : SA} {E : XK} {te : TE} {FE : DT}
/-- the things of a set comprehension, in their order -/
def scStep (G : DTG) (FT : DTT) (FE : DT) (vs : List Nat) (ρ : List SV) : D → Nat → (Option D → Nat → Prop) → Prop :=
  fun x n2 k => G x (wipeS ρ vs) fun ρ2 => FT ρ2 n2 (fun b n3 => match b with | true => FE ρ2 n3 (fun d n4 => ∃ c : Int, d = .int c ∧ k (some d) n4) xF | false => k none n3) xF
def xSortSc (FI : DTI) (G : DTG) (FT : DTT) (FE : DT) (vs : List Nat) : DT := fun ρ n P XP => FI ρ n (fun xs n1 => xs.length ≤ 63 ∧
  compM (fun x n2 k => G x (wipeS ρ vs) fun ρ2 => FT ρ2 n2 (fun b n3 => match b with | true => FE ρ2 n3 (fun d n4 => ∃ c : Int, d = .int c ∧ k (some d) n4) xF | false => k none n3) xF) xs n1 (fun ds n5 => ∃ ns : List Int, ds = ns.map D.int ∧ ∀ ns' : List Int, ns'.Pairwise (· < ·) → (∀ k, k ∈ ns' ↔ k ∈ ns) → P (.lst (ns'.map D.int)) n5)) XP
theorem mem_snoc (acc : List Int) (c : Int) : (fun j => decide (j ∈ acc) || decide (j = c)) = fun j => decide (j ∈ acc ++ [c]) := by
  funext j
  rw [← Bool.decide_or]
  simp [List.mem_append]
theorem rd_sortSc {wi : TI} {g : TG} {tt : TT} {FI : DTI} {G : DTG} {FT : DTT} {vs : List Nat} {X : Cx} (hw : X.w = w0) (hi : RdJ K T S E wi FI) (hg : RdG K T S vs g G) (ht : RdT K T S E0 tt FT) (he : DL.Rd K T S E0 te FE) :
    DL.Rd K T S E (tCB (rSortedSet X.w) (tCons (SCo.tSc (X := X) (intKd X.prog X.w) wi g tt te vs) tNil)) (xSortSc FI G FT FE vs) := fun σ ρ Hb H n P XP Q w sl h q x => by
  refine hi σ ρ Hb H n _ XP _ w sl h (fun xs n1 Hb1 H1 J s src p => ?_) x
  obtain ⟨hlen, p⟩ := p
  intro L hL
  have nSa : L ≠ S.a := s.wd.sa.ne (fresh_none hL)
  have nSl : L ≠ S.l := s.wd.sl.ne (fresh_none hL)
  refine ⟨fun i m H2 => m = xs.length - i ∧ i ≤ xs.length ∧ ∃ (n2 : Nat) (Hb2 : Hp) (acc : List Int) (c : Nat), Stp K T S Hb1 H1 n1 Hb2 H2 n2 ∧ H2 L = some (SetO X.w L (fun j => decide (j ∈ acc)) c) ∧ Hb2 L = none ∧ c ≤ acc.length ∧ acc.length ≤ i ∧
    compM (scStep G FT FE vs ρ) (xs.drop i) n2 fun ds n5 => ∃ ns : List Int, acc.map D.int ++ ds = ns.map D.int ∧ ∀ ns' : List Int, ns'.Pairwise (· < ·) → (∀ k, k ∈ ns' ↔ k ∈ ns) → P (.lst (ns'.map D.int)) n5,
    ⟨xs.length, rfl, Nat.zero_le _, n1, Hb1, [], 0, .newO s.wd hL setO_no, by simp [upd_same, intKd], free_of s.wd.ex hL, Nat.le_refl _, Nat.le_refl _, p⟩, ?_⟩
  rintro i m H2 ⟨rfl, hi2, n2, Hb2, acc, c, s2, eL, fL, lc, la, hc⟩
  obtain ⟨stop, go⟩ := src Hb2 H2 n2 i s2
  by_cases hlt : i < xs.length
  · have ex : xs[i]? = some xs[i] := List.getElem?_eq_getElem hlt
    obtain ⟨hgo, hy⟩ := go _ ex
    rw [List.drop_eq_getElem_cons hlt] at hc
    refine .inr ⟨hgo, fun H' => ∃ (n' : Nat) (Hb' : Hp) (acc : List Int) (c : Nat), Stp K T S Hb1 H1 n1 Hb' H' n' ∧ H' L = some (SetO X.w L (fun j => decide (j ∈ acc)) c) ∧ Hb' L = none ∧ c ≤ acc.length ∧ acc.length ≤ i + 1 ∧
      compM (scStep G FT FE vs ρ) (xs.drop (i + 1)) n' fun ds n5 => ∃ ns : List Int, acc.map D.int ++ ds = ns.map D.int ∧ ∀ ns' : List Int, ns'.Pairwise (· < ·) → (∀ k, k ∈ ns' ↔ k ∈ ns) → P (.lst (ns'.map D.int)) n5,
      fun H' hN => ⟨xs.length - (i + 1), by omega, rfl, hlt, hN⟩, fun v H' y => ?_⟩
    obtain ⟨Hb3, s3, hv⟩ := item_step (n := n2) s2.wd (hy v H' y)
    have st3 := s2.trans s3
    have sl3 : Sl0 K S (fun _ => none) Hb3 H' n2 (wipeS ρ vs) (wipe σ vs) := ⟨((sl.step s).step st3).wiped vs, fun _ _ _ _ _ _ => fresh_none rfl⟩
    refine hg v _ (wipe σ vs) (wipeS ρ vs) _ Hb3 H' n2 _ _ s3.wd sl3 hv hc fun ρ4 σ4 sl4 hw4 hT => ⟨hw4.trans wipe_wipe, ?_⟩
    obtain ⟨eL3, fL3⟩ := s3.own L _ eL fL nSa nSl setO_no (fun _ z => set_no_code z rfl)
    refine ht σ4 ρ4 Hb3 H' n2 _ xF _ s3.wd sl4.sl hT (fun b n4 Hb4 H4 s4 p4 => ?_) XOk.none
    obtain ⟨eL4, fL4⟩ := s4.own L _ eL3 fL3 nSa nSl setO_no (fun _ z => set_no_code z rfl)
    cases b with
    | false => exact iteF ⟨n4, Hb4, acc, c, st3.trans s4, eL4, fL4, lc, Nat.le_succ_of_le la, p4⟩
    | true =>
      refine iteT ?_
      refine he σ4 ρ4 Hb4 H4 n4 _ xF _ s4.wd (sl4.sl.step s4) p4 (fun d u n5 Hb5 H5 s5 hu p5 => ?_) XOk.none
      obtain ⟨k, rfl, p5⟩ := p5
      cases hu
      obtain ⟨eL5, fL5⟩ := s5.own L _ eL4 fL4 nSa nSl setO_no (fun _ z => set_no_code z rfl)
      have w5 := s5.wd
      have st5 := (st3.trans s4).trans s5
      have nT : ∀ q ∈ T, q.1 ≠ L := fun q hq z => by
        obtain ⟨ps, e, _⟩ := w5.tabs q hq
        rw [z, eL5] at e
        exact setO_no ps (Option.some.inj e)
      refine ⟨k, _, c, rfl, eL5, Nat.lt_of_lt_of_le (show c + 1 < 100 by omega) (by decide), n5, Hb5, acc ++ [k], if decide (k ∈ acc) = true then c else c + 1, ?_, by rw [upd_same, mem_snoc], fL5, ?_, by simp; omega, ?_⟩
      · refine ⟨st5.ex, ⟨fun b o e => ?_, fun q hq => ?_, w5.tb, w5.sa.upd setO_no, w5.sl.upd setO_no, w5.sc.upd setO_no, w5.nt⟩, fun h0 => ?_, fun b o e1 e2 e3 e4 e5 => ?_, fun b e => st5.dm b (dm_upd setO_no b e)⟩
        · rw [upd_ne (fun z => by rw [z, fL5] at e; cases e)]
          exact w5.ex b o e
        · obtain ⟨ps, e, t1, t2⟩ := w5.tabs q hq
          refine ⟨ps, by rw [upd_ne (nT q hq)]; exact e, t1, fun pos cv hcv => ?_⟩
          obtain ⟨c2, e1, e2⟩ := t2 pos cv hcv
          refine ⟨c2, e1, ?_⟩
          rw [upd_ne (fun z => by rw [z, eL5] at e2; exact set_no_code (Option.some.inj e2) rfl)]
          exact e2
        · obtain ⟨g1, g2, ls, cs, mm, t, g3, g4, g5, g6, g7, g8, rest⟩ := st5.st h0
          exact ⟨g1, g2, ls, cs, mm, t, g3, g4, g5, by rw [upd_ne nSa.symm]; exact g6, by rw [upd_ne nSl.symm]; exact g7, g8, rest⟩
        · have hb : b ≠ L := ne_of_none e1 hL
          rw [upd_ne hb]
          exact st5.own0 b o e1 e2 e3 e4 e5
      · rw [List.length_append]
        simp only [List.length_cons, List.length_nil]
        split <;> omega
      · have e6 : ∀ ds, (acc ++ [k]).map D.int ++ ds = acc.map D.int ++ (D.int k :: ds) := fun ds => by simp
        simp only [e6]
        exact p5
  · have e : i = xs.length := by omega
    subst e
    refine .inl ⟨stop (Nat.le_refl _), ?_⟩
    rw [List.drop_length] at hc
    obtain ⟨ns, e1, p9⟩ : ∃ ns : List Int, acc.map D.int ++ [] = ns.map D.int ∧ ∀ ns' : List Int, ns'.Pairwise (· < ·) → (∀ k, k ∈ ns' ↔ k ∈ ns) → P (.lst (ns'.map D.int)) n2 := hc
    rw [List.append_nil] at e1
    have e2 : acc = ns := by
      have z := congrArg (List.map fun d => match d with | D.int i => i | _ => 0) e1
      simpa [List.map_map, Function.comp_def] using z
    subst e2
    refine ⟨L, _, c, rfl, eL, by omega, fun ns' p2 h1 h2 h3 h4 => ?_⟩
    exact (q.step (s.trans s2)).new s2.wd h4 (.lst (SqL.of upd_same) (DnA.ints ns')) (p9 ns' h1 fun k => by rw [h2]; simp)
/-- sorted(set(xs)) -/
def xSortSet (F : DT) : DT := fun ρ n P XP => F ρ n (fun d n1 => ∃ ns : List Int, d = .lst (ns.map D.int) ∧ ns.length ≤ 63 ∧ ∀ ns' : List Int, ns'.Pairwise (· < ·) → (∀ k, k ∈ ns' ↔ k ∈ ns) → P (.lst (ns'.map D.int)) n1) XP
theorem rd_sortSet (h1 : DL.Rd K T S E te FE) : DL.Rd K T S E (tCB (rSortedSet w0) (tCons (tCB (rSetL K w0) (tCons te tNil)) tNil)) (xSortSet FE) := fun σ ρ Hb H n P XP Q w sl h q x =>
  h1 σ ρ Hb H n _ XP _ w sl h (fun d v n1 Hb1 H1 s hd p => by
    obtain ⟨ns, rfl, hl, p⟩ := p
    cases hd with
    | @lst a vs ds g1 g2 =>
      have e := ints_of g2
      subst e
      refine ⟨a, ns, rfl, ex_l s.wd.ex g1, by omega, fun L c hc hL => ?_⟩
      refine ⟨L, _, c, rfl, upd_same, by omega, fun ns' p2 i1 i2 i3 i4 => ?_⟩
      have s2 : Stp K T S Hb1 H1 n1 Hb1 (upd H1 L (SetO w0 L (fun j => decide (j ∈ ns)) c)) n1 := .newO s.wd hL setO_no
      exact (q.step (s.trans s2)).new s2.wd i4 (.lst (SqL.of upd_same) (DnA.ints ns')) (p ns' i1 fun k => by rw [i2]; simp)) x
end
end DL

/-! sorted(xs), xs a list or tuple of ints or of tuples of ints; <, >= of tuples of ints -/
namespace SCo
open L2 PySem PySem.Spec PyProof.Rows PySem.W
section
variable {prog : Program} {w : PySem.World} {A : Around} {E : Value → Shared → Prop} {s : Shared} {β : Type} {bs : List β} {enc : β → PyData} {R : Value → β → Prop}
/-- the items of a list or tuple, gathered anew; the heap only grows -/
theorem gathered {Q : List Value → Shared → Prop} (l : Addr) {T : String} {o : Obj} {its : Array Value} {n : Nat} (hT : T = "list" ∨ T = "tuple") (ho : s.heap.get? l = some o) (hc : o.cls = .type T) (hd : o.data = .seq its n) (hz : its.size ≤ sizeLine)
    (fin : ∀ h1 : Heap, (∀ b u, s.heap.get? b = some u → h1.get? b = some u) → s.heap.objs.size ≤ h1.objs.size → Q its.toList { s with heap := h1 }) : wpAny (model prog w) A (collect (.ref l)) Q E s := by
  have at1 : (s.heap.push { cls := .type "list", data := .seq ([] : List Value).toArray }).get? s.heap.objs.size = some { cls := .type "list", data := .seq #[] 0 } := Heap.get?_push_size _ rfl
  have at2 := Heap.get?_update_self (Obj.mapSeq (· ++ its)) at1 rfl
  unfold collect
  refine wpAny_bind (wpAny_runValue (codeAny_builtin F.entry_proto_collect ?_))
  rw [Around.under_plainId F.plain_proto_collect _]
  refine wpAny_bind (m := newList []) (wpAny_newObj_type (wpAny_pure ⟨plainId_quiet F.plain_list_iadd _, codeAny_builtin F.entry_list_iadd ?_⟩))
  rw [Around.under_plainId F.plain_list_iadd _]
  have out : wpAny (model prog w) A (match Value.ref s.heap.objs.size with
      | Value.ref a => do
        match (← load a).data with
          | Data.seq xs _ => pure xs.toList
          | _ => unsupported "internal:collect"
      | _ => unsupported "internal:collect") Q E { s with heap := (s.heap.push { cls := .type "list", data := .seq ([] : List Value).toArray }).update s.heap.objs.size (Obj.mapSeq (· ++ its)) } := by
    show wpAny _ A (load s.heap.objs.size >>= _) _ _ _
    refine wpAny_bind (wpAny_load at2 (wpAny_pure ?_))
    have e : ((#[] : Array Value) ++ its).toList = its.toList := by simp
    show Q ((#[] : Array Value) ++ its).toList _
    rw [e]
    exact fin _ (fun b u q => (Heap.get?_update_other _ _ (Nat.ne_of_gt (Heap.lt_size q))).trans (Heap.get?_push_of_some _ q)) (by rw [Heap.size_update, size_push']; exact Nat.le_succ _)
  refine wpAny_mono (wpAny_extend_seq (hsz := hz) (A := A) (R := fun r s1 => r = .ok (.ret (.ref s.heap.objs.size)) ∧ s1 = { s with heap := (s.heap.push { cls := .type "list", data := .seq ([] : List Value).toArray }).update s.heap.objs.size (Obj.mapSeq (· ++ its)) })
    (s := { s with heap := s.heap.push { cls := .type "list", data := .seq ([] : List Value).toArray } }) _ l _ 0 hT at1 (Heap.get?_push_of_some _ ho) hc hd ⟨rfl, rfl⟩) (fun f s1 h => ?_) (fun e s1 h => absurd h.1 (by simp))
  cases f with
  | done f =>
    obtain ⟨e, rfl⟩ := h
    cases e
    exact out
  | again c => exact ⟨h.1, codeAny_mono h.2 fun r s2 hr => by obtain ⟨rfl, rfl⟩ := hr; exact out⟩
end
end SCo

/-! as data: sorted of tuples of ints, < and >= of these -/
namespace SCo
open L2 PySem PySem.Spec PyProof.Rows PySem.W
def ltI (a b : List Int) : Bool := decide (a < b)
theorem lexLt_eq : ∀ {a b : List Int}, HT.lexLt a b = ltI a b
  | [], [] => by simp [HT.lexLt, ltI]
  | [], _ :: _ => by simp [HT.lexLt, ltI]
  | _ :: _, [] => by simp [HT.lexLt, ltI]
  | x :: a, y :: b => by
    have ih := lexLt_eq (a := a) (b := b)
    unfold ltI at ih ⊢
    rw [HT.lexLt, ih]
    by_cases h : x = y
    · subst h
      rw [if_pos rfl, decide_eq_decide, List.cons_lt_cons_iff]
      constructor
      · exact fun z => .inr ⟨rfl, z⟩
      · rintro (z | z)
        · exact absurd z (by omega)
        · exact z.2
    · rw [if_neg h, decide_eq_decide, List.cons_lt_cons_iff]
      constructor
      · exact fun z => .inl z
      · rintro (z | z)
        · exact z
        · exact absurd z.1 h
section
variable {X : Cx}
/-! ### < and >= -/
def rLtU (K : PySem.W.Frag) : R2 := fun x y H Q => (rI0 fun i j => .bl (decide (i < j))) x y H Q ∨ rLtT K x y H Q
theorem op_ltU (hu : X.A.units < cLine) : OpR X (compareOp .Lt) (rLtU X.K) := fun pins s σ H x y u v Q I rx ry h => h.elim (op_lt pins s σ H x y u v Q I rx ry) (op_ltT hu pins s σ H x y u v Q I rx ry)
end
end SCo
namespace DL
open L2 PySem PySem.Spec PyProof.Rows SCo
open Evl (Ex ex_l ex_t sz_of)
section
variable {K : PySem.W.Frag}
def tupI (ns : List Int) : D := .tup (ns.map D.int)
def ltUD : D → D → (D → Prop) → Prop
  | .int i, .int j, k => k (.bl (decide (i < j)))
  | .tup xs, .tup ys, k => ∃ ns ms : List Int, xs = ns.map D.int ∧ ys = ms.map D.int ∧ k (.bl (ltI ns ms))
  | _, _, _ => False
theorem o2_ltU : Op2 K (rLtU K) ltUD := by
  intro T S x y a b Hb H n P Q w hx hy h q
  cases hx with
  | int i =>
    cases hy with
    | int j => exact .inl ⟨i, j, rfl, rfl, q.now w (.bl _) h⟩
    | _ => exact h.elim
  | tup g1 g2 =>
    cases hy with
    | tup g3 g4 =>
      obtain ⟨ns, ms, rfl, rfl, h⟩ := h
      have e1 := ints_of g2
      have e2 := ints_of g4
      subst e1 e2
      exact .inr ⟨_, _, ns, ms, rfl, rfl, ex_t w.ex g1, ex_t w.ex g3, q.now w (.bl _) (by rw [lexLt_eq]; exact h)⟩
    | _ => exact h.elim
  | _ => exact h.elim
end
end DL

/-! min, max of a pair; in of tuples of tuples; xs[::-1]; pop(); extend; dicts of one's own by any key -/
namespace SCo
open L2 PySem PySem.Spec PyProof.Rows PySem.W
section
variable {X : Cx}
/-- in, not in of a tuple, its items any data -/
def rInT (K : PySem.W.Frag) (f : Bool → Bool) : R2 := fun x y H Q => ∃ d ds, Dp K H x d ∧ Dp K H y (.tuple ds) ∧ SeqAt.shaped d = true ∧ SeqAt.shaped (.tuple ds) = true ∧ Q (.bl (f (ds.any fun z => PyData.eqv z d))) H
theorem op_notInT {k0 : Nat} (hr : Room k0 X.A) : OpR X (compareOp .NotIn) (rInT X.K not) := by
  intro pins s σ H x y v u Q I rx ry h
  obtain ⟨d, ds, hd, he, sd, se, q⟩ := h
  obtain ⟨as, r1⟩ := Dp.reads I d x v hd rx
  obtain ⟨bs, r2⟩ := Dp.reads I (.tuple ds) y u he ry
  exact SeqAt.notIn_tuple_reads r2 r1 (SeqAt.canLay_of_shaped se) (SeqAt.canLay_of_shaped sd) (room_in_shaped sd (by have := hr.un; omega)) ⟨.bl _, H, I, rfl, q⟩
end
end SCo
namespace DL
open L2 PySem PySem.Spec PyProof.Rows SCo
open Evl (Ex ex_l ex_t sz_of)
section
variable {K : PySem.W.Frag} {T : Tb} {S : SA} {E : XK} {te tk : TE} {FE FK : DT}
def pairD (f : Int → Int → Int) : D → (D → Prop) → Prop := fun d k => match d with
  | .tup [.int i, .int j] => k (.int (f i j))
  | _ => False
def inTD (f : Bool → Bool) : D → D → (D → Prop) → Prop := fun a b k => ∃ p ps, toP a = some p ∧ toP b = some (.tuple ps) ∧ SeqAt.shaped p = true ∧ SeqAt.shaped (.tuple ps) = true ∧ k (.bl (f (ps.any fun z => PyData.eqv z p)))
theorem o2_inT {f : Bool → Bool} : Op2 K (rInT K f) (inTD f) := by
  intro T S x y a b Hb H n P Q w hx hy h q
  obtain ⟨p, ps, e1, e2, s1, s2, h⟩ := h
  exact ⟨p, ps, Dn.toDp _ (w.dn hx) e1, Dn.toDp _ (w.dn hy) e2, s1, s2, q.now w (.bl _) h⟩
/-! ### xs[::-1] -/
/-! ### y = xs.pop() -/
def xsSetPop0 (i j : Nat) : DTS := fun DD ρ n XP => slotO ρ j fun xs => ∃ (ys : List D) (y : D), xs = ys ++ [y] ∧ DD.nx ((ρ.set j (.ol ys)).set i (.d y)) n
theorem DnA.last : ∀ {vs : List V} {ds : List D} {d : D} {H : Hp}, DnA K H vs (ds ++ [d]) → ∃ us u, vs = us ++ [u] ∧ DnA K H us ds ∧ Dn K H u d
  | _, [], _, _, h => by
    cases h with
    | cons h1 h2 =>
      cases h2
      exact ⟨[], _, rfl, .nil, h1⟩
  | _, e :: ds, _, _, h => by
    cases h with
    | cons h1 h2 =>
      obtain ⟨us, u, rfl, h3, h4⟩ := DnA.last h2
      exact ⟨_ :: us, u, rfl, .cons h1 h3, h4⟩
theorem rds_setPop0 {i j : Nat} : RdS K T S E (tAsg (tBM0 K "list" rPop (tVar j)) (gName i)) (xsSetPop0 i j) := fun σ ρ Hb0 H0 n0 Hb H n DD XP D a sl h q x => by
  obtain ⟨xs, p, vs, e, es, e3, e4, e5, e6, e8, e7, h⟩ := sl.sl.own h
  obtain ⟨ys, y, rfl, pp⟩ := h
  obtain ⟨us, u, rfl, h7, hu⟩ := DnA.last e7
  refine ⟨.ref p, es, .inl ⟨rfl, _, SqL.of e3⟩, ?_⟩
  refine ⟨p, _, u, rfl, rfl, e3, by simp, ?_⟩
  have z := own_stmt (us := us) (ys := ys) (DD := { nx := fun ρ' n' => DD.nx (ρ'.set i (.d y)) n', rt := DD.rt, bk := DD.bk, ct := DD.ct }) (D := { D with nx := fun σ' H' => D.nx (σ'.set i (some u)) H' }) a sl ⟨fun ρ' σ' n' Hb' H' e' s' sl' p' => ?_, q.rt, q.bk, q.ct⟩ e es e3 e4 e5 e6 e8 h7 pp
  · rw [List.dropLast_concat]
    exact z
  · exact q.nx _ _ n' Hb' H' e' s' (sl'.set (hu.up e')) p'
/-! ### xs.extend([..]) -/
def xsExtO (i : Nat) (F : DTL) : DTS := fun DD ρ n XP => (∃ xs, ρ[i]? = some (.ol xs)) ∧ F ρ n (fun ds n1 => slotO ρ i fun xs => xs.length + ds.length ≤ 100000 ∧ DD.nx (ρ.set i (.ol (xs ++ ds))) n1) XP
theorem rds_extO {i : Nat} {F : DTL} (h1 : RdN K T S E te F) : RdS K T S E (tDrop (tBM K "list" rExtend (tVar i) (tCons te tNil))) (xsExtO i F) := fun σ ρ Hb0 H0 n0 Hb H n DD XP D a sl h q x => by
  obtain ⟨⟨xs0, e0⟩, h⟩ := h
  obtain ⟨xs, p, vs, e, es, e3, e4, e5, e6, e8, e7, _⟩ := sl.sl.own (k := fun _ => True) (i := i) (by unfold slotO; rw [e0]; trivial)
  refine ⟨.ref p, es, .inl ⟨rfl, vs, SqL.of e3⟩, ?_⟩
  refine h1 σ ρ Hb H n _ XP _ a.wd sl.sl h (fun ds r ws n1 Hb1 H1 s hr f1 f2 hd pp => ?_) (x.step a)
  obtain ⟨g1, g2⟩ := s.own p _ e3 e4 e5 e6 (fun ps z => by cases z)
  have h7 := e7.up s.ex
  unfold slotO at pp
  rw [e] at pp
  obtain ⟨pl, pp⟩ := pp
  exact ⟨p, r, vs, ws, rfl, rfl, g1, f1, sz_of (by rw [h7.len, hd.len]; exact pl), own_stmt (a.trans s) (sl.step s) (q.up s.ex) e es g1 g2 e5 e6 e8 (h7.app hd) pp⟩
/-! ### k not in x, x[k] = e, x a dict of one's own -/
def keyIn (k : Key) (ks : List Key) : Bool := ks.any fun x => decide (x = k)
theorem keyIn_mem {k : Key} {ks : List Key} : keyIn k ks = true ↔ k ∈ ks := by
  unfold keyIn
  rw [List.any_eq_true]
  constructor
  · rintro ⟨x, h1, h2⟩
    rw [← of_decide_eq_true h2]
    exact h1
  · exact fun h => ⟨k, h, by simp⟩
def xtNotInE (i : Nat) (F : DT) : DTT := fun ρ n P XP => F ρ n (fun d n1 => ∃ k, keyD d = some k ∧ slotE ρ i fun ks _ => P (!keyIn k ks) n1) XP
theorem val_some {kvs : List (Key × V)} {k : Key} : (valV kvs k).isSome = keyIn k (kvs.map (·.1)) := by
  unfold valV
  cases f : kvs.find? fun kv => decide (kv.1 = k) with
  | none =>
    have h := List.find?_eq_none.mp f
    symm
    show keyIn k (kvs.map (·.1)) = false
    rw [Bool.eq_false_iff]
    intro hm
    obtain ⟨kv, h1, h2⟩ := List.mem_map.mp (keyIn_mem.mp hm)
    exact h kv h1 (by simpa using h2)
  | some kv =>
    have h1 := List.mem_of_find?_eq_some f
    have h2 := List.find?_some f
    symm
    exact keyIn_mem.mpr (List.mem_map.mpr ⟨kv, h1, by simpa using h2⟩)
theorem rdt_notInE {i : Nat} (h1 : DL.Rd K T S E te FE) : RdT K T S E (tB (tDNotIn te (tVar i))) (xtNotInE i FE) := fun σ ρ Hb H n P XP Q w sl h q x => by
  refine h1 σ ρ Hb H n _ XP _ w sl h (fun d v n1 Hb1 H1 s hd pp => ?_) x
  obtain ⟨k, ek, pp⟩ := pp
  obtain ⟨ks, ds, p, kvs, e, es, e3, e4, e5, e6, e8, e7, e9, pp⟩ := (sl.step s).ownE pp
  refine ⟨.ref p, es, p, valV kvs k, rfl, .inl ⟨kvs, k, .inl e3, key_rel hd ek, rfl⟩, !(valV kvs k).isSome, rfl, ?_⟩
  rw [val_some, e7]
  exact q _ _ _ _ s pp
def xsPutK (i : Nat) (FK F : DT) : DTS := fun DD ρ n XP => noOd (ρ.set i .no) = true ∧ (∃ ks ds, ρ[i]? = some (.od ks ds)) ∧ F ρ n (fun d n1 => FK ρ n1 (fun kd n2 => ∃ k, keyD kd = some k ∧ slotE ρ i fun ks ds => k ∉ ks ∧ ks.length ≤ 100 ∧ DD.nx (ρ.set i (.od (ks ++ [k]) (ds ++ [d]))) n2) XP) XP
theorem rds_putK {i : Nat} (hk : DL.Rd K T S E tk FK) (h1 : DL.Rd K T S E te FE) : RdS K T S E (sDPut (tVar i) tk te) (xsPutK i FK FE) := fun σ ρ Hb0 H0 n0 Hb H n DD XP D a sl h q x => by
  obtain ⟨no, ⟨ks0, ds0, e0⟩, h⟩ := h
  refine h1 σ ρ Hb H n _ XP _ a.wd sl.sl h (fun d v n1 Hb1 H1 s1 hd pp => ?_) (x.step a)
  obtain ⟨_, _, p0, _, _, es0, _⟩ := (sl.step s1).sl.ownE (k := fun _ _ => True) (i := i) (by unfold slotE; rw [e0]; trivial)
  refine ⟨.ref p0, es0, ?_⟩
  refine hk σ ρ Hb1 H1 n1 _ XP _ s1.wd (sl.step s1).sl pp (fun kd kv n' Hb' H' s2 hkd pp => ?_) ((x.step a).step s1)
  obtain ⟨k, ek, pp⟩ := pp
  have s := s1.trans s2
  have sl2 := sl.step s
  obtain ⟨ks, ds, p, kvs, e, es, e3, e4, e5, e6, e8, e7, e9, hk, hl, pp⟩ := sl2.sl.ownE pp
  have ep0 : p0 = p := by
    rw [es0] at es
    cases es
    rfl
  subst ep0
  have f0 : Fresh H0 p0 := sl.fr i _ p0 e rfl es
  have ep : putK kvs k v = kvs ++ [(k, v)] := by
    unfold putK
    refine if_neg (fun y => ?_)
    obtain ⟨kv2, hm, hd2⟩ := List.any_eq_true.mp y
    have e0 : kv2.1 = k := of_decide_eq_true hd2
    exact hk (by rw [← e7, ← e0]; exact List.mem_map.mpr ⟨kv2, hm, rfl⟩)
  have hd' := hd.up s2.ex
  refine ⟨p0, upd H' p0 (.dK (kvs ++ [(k, v)])), rfl, ?_, ?_⟩
  · refine .inl ⟨kvs, k, e3, key_rel hkd ek, Evl.sz_lt ?_, by rw [ep]⟩
    have e9l : kvs.length = ks.length := by rw [← e7, List.length_map]
    omega
  · have s3 := (a.trans s).put (u := .dK (kvs ++ [(k, v)])) f0 e4 e3 (fun _ z => by cases z) (fun _ z => by cases z) (fun _ z => by cases z) e5 e6
    have b1 : Slots K S Hb' H' n' (ρ.set i .no) (σ.set i (some (.ref p0))) := sl2.sl.forget
    have b2 := b1.putE (us := kvs ++ [(k, v)]) e3 e5 e6 no
    have b3 := b2.setX (i := i) (s := .od (ks ++ [k]) (ds ++ [d])) (o := some (.ref p0)) ⟨p0, _, rfl, upd_same, e4, e5, e6, e8, by rw [List.map_append, e7]; rfl, by rw [List.map_append]; exact e9.app (.one hd')⟩ (fun _ z => by cases z)
    rw [set_set, set_set] at b3
    have hσ : σ.set i (some (V.ref p0)) = σ := set_get es
    have b4 := sl2.fr.setF (i := i) (s := .od (ks ++ [k]) (ds ++ [d])) f0 sl.sl.len
    rw [hσ] at b3 b4
    exact q.nx _ _ n' Hb' _ s.ex s3 ⟨b3, b4⟩ pp
end
end DL

/-! facts of itertools.combinations -/
namespace RZ
open PySem PySem.Spec PyProof.Rows L2
namespace Cb
theorem owner_comb : Manifest.owners.lookup (String.ofList (String.toList "itertools.combinations").reverse.reverse) = some Manifest.sig_itertools_combinations := by kernel_rfl
theorem slot_comb_init : Slot "itertools.combinations" "__init__" "object.__init__" :=
  .of (owner := "object") (n := "__init__") (by rw [typeLookup_type, builtinLookup_eq_fast]; kernel_rfl) (by decide +kernel) (by decide +kernel) (by decide +kernel)
    (by first | exact .inl (by decide +kernel) | exact .inr (by decide +kernel)) (by rw [isSubtype_type]; kernel_rfl)
theorem slot_comb_iter : Slot "itertools.combinations" "__iter__" "itertools.combinations.__iter__" :=
  .of (owner := "itertools.combinations") (n := "__iter__") (by rw [typeLookup_type, builtinLookup_eq_fast]; kernel_rfl) (by decide +kernel) (by decide +kernel) (by decide +kernel)
    (by first | exact .inl (by decide +kernel) | exact .inr (by decide +kernel)) (by rw [isSubtype_type]; kernel_rfl)
theorem slot_comb_next : Slot "itertools.combinations" "__next__" "itertools.combinations.__next__" :=
  .of (owner := "itertools.combinations") (n := "__next__") (by rw [typeLookup_type, builtinLookup_eq_fast]; kernel_rfl) (by decide +kernel) (by decide +kernel) (by decide +kernel)
    (by first | exact .inl (by decide +kernel) | exact .inr (by decide +kernel)) (by rw [isSubtype_type]; kernel_rfl)
theorem entry_comb_next : entryFor table "itertools.combinations.__next__" = some Builtin.«itertools.combinations.__next__» := entryFor_of_tree (by kernel_rfl)
theorem entry_comb_new : entryFor table "itertools.combinations.__new__" = some Builtin.«itertools.combinations.__new__» := entryFor_of_tree (by kernel_rfl)
theorem entry_comb_iter : entryFor table "itertools.combinations.__iter__" = some Builtin.«dict_keyiterator.__iter__» :=
  entryFor_alias (id' := "dict_keyiterator.__iter__") (by kernel_rfl) (by first | rfl | decide +kernel | (unfold String.splitOn; simp +decide [String.splitOnAux])) (by decide +kernel) (by kernel_rfl)
theorem args_comb_next (a : Value) : argsOk "itertools.combinations.__next__" ⟨[a], []⟩ := by
  unfold argsOk; rw [signature?_of (id := "itertools.combinations.__next__") (n := ['_', '_', 't', 'x', 'e', 'n', '_', '_']) (o := (String.toList "itertools.combinations").reverse) (by kernel_rfl) owner_comb]; kernel_rfl
theorem args_comb_iter (a : Value) : argsOk "itertools.combinations.__iter__" ⟨[a], []⟩ := by
  unfold argsOk; rw [signature?_of (id := "itertools.combinations.__iter__") (n := ['_', '_', 'r', 'e', 't', 'i', '_', '_']) (o := (String.toList "itertools.combinations").reverse) (by kernel_rfl) owner_comb]; kernel_rfl
theorem mro_comb : mroOf (.type "itertools.combinations") = pure [.type "itertools.combinations", .type "object"] := by rw [mroOf_type]; kernel_rfl
theorem lookup_comb_new : typeLookup (.type "itertools.combinations") "__new__" = pure (some (.builtin "itertools.combinations.__new__")) := by rw [typeLookup_type, builtinLookup_eq_fast]; kernel_rfl
theorem called_comb : TypeCalled "itertools.combinations" "itertools.combinations.__new__" "object.__init__" :=
  ⟨by decide +kernel, by decide +kernel, ⟨_, _, mro_comb⟩, madeBy_type mro_comb lookup_comb_new (by decide +kernel), by decide +kernel, by rw [isSubtype_type]; kernel_rfl, slot_comb_init⟩
theorem typeCall_comb (a b : Value) : checkTypeCall "itertools.combinations" ⟨[a, b], []⟩ = pure () := by kernel_rfl
theorem newCall_comb (a b : Value) : checkBuiltinCall "itertools.combinations.__new__" ⟨[.type "itertools.combinations", a, b], []⟩ = pure () := by kernel_rfl
theorem sub_comb : isSubtype (.type "itertools.combinations") (.type "itertools.combinations") = pure true := by rw [isSubtype_type]; kernel_rfl
end Cb
end RZ

namespace RZ
open PySem PySem.Spec PyProof.Rows L2
open AutoSeq1 (wpAny_loadPart')
def tupObj (items : Array Value) : Obj := { cls := .type "tuple", data := .seq items }
section
variable {prog : Program} {w : World} {A : Around} {E : Value → Shared → Prop} {s : Shared}
end
end RZ

namespace RZ
open PySem PySem.Spec PyProof.Rows L2
open AutoSeq1 (wpAny_loadPart')
section
variable {prog : Program} {w : World} {A : Around} {E : Value → Shared → Prop} {s : Shared} {c p : Addr} {items : Array Value}
theorem it_stop {s : Shared} {Q : Fin → Shared → Prop} {E' : Value → Shared → Prop} (hh : A.handled = none)
    (hE : ∀ h' a o, (∀ b o, s.heap.get? b = some o → h'.get? b = some o) → h'.get? a = some o → o.cls = .type "StopIteration" → E' (.ref a) { s with heap := h' }) : wpAny (model prog w) A (Builtin.Itertools.itStop : Sem Fin) Q E' s := by
  unfold Builtin.Itertools.itStop
  refine wpAny_bind ?_
  simp only [newExc, newTuple]
  refine wpAny_bind (wpAny_newObj_type ?_ (by size_fits))
  refine wpAny_bind (m := firstArgMember _ _) (wpAny_of_eq (a := Value.none) (by first | rfl | (simp only [firstArgMember]; rfl)) ?_)
  refine wpAny_newObj_type ?_ (by size_fits)
  simp only [raiseNew]
  refine wpAny_bind (wpAny_handled ?_)
  rw [hh]
  refine wpAny_bind (wpAny_pure (wpAny_throw ?_))
  exact hE _ _ _ (fun b o q => Heap.get?_push_of_some _ (Heap.get?_push_of_some _ q)) (Heap.get?_push_size _ rfl) rfl
end
end RZ

/-! combinations(range(n), 2): as a loop's iterator -/
namespace DL
/-- all pairs of items, the earlier one first -/
def pairsL {α : Type} : List α → List (α × α)
  | [] => []
  | x :: xs => xs.map (fun y => (x, y)) ++ pairsL xs
end DL
namespace RZ
open PySem PySem.Spec PyProof.Rows L2
end RZ
namespace DL
open L2 PySem PySem.Spec PyProof.Rows
open Evl (Ex ex_l ex_t sz_of)
section
variable {K : PySem.W.Frag} {T : Tb} {S : SA} {E : XK} {Hb H Hb1 H1 : Hp} {n n1 : Nat}
end
end DL

/-! dicts of one's own whose keys are tuples of ints: setdefault, sorted(d); sorted(set(xs)) of pairs; xs.index(pair) -/
namespace SCo
open L2 PySem PySem.Spec PyProof.Rows
section
variable {X : Cx} {pins : List (Addr × Obj)} {σ : L2.St} {H : Hp} {s : Shared} {a b : Addr} {r : Value} {v d : V} {A : Around} {E : Value → Shared → Prop}
end
section
variable {X : Cx} {o e f : Expr} {td ty tx : TE} {apos cpos : Pos}
end
section
variable {prog : Program} {w : World} {A : Around} {E : Value → Shared → Prop} {s : Shared}
end
section
variable {prog : Program} {w : World} {A : Around} {E : Value → Shared → Prop} {s : Shared} {T : String} {r d : Addr} {n : Nat} {P : Nat → Value → Prop} {OK : Heap → Prop}
end
def unl (k : List Key) : List Int := k.map fun | .inl i => i | .inr _ => 0
theorem unl_inl (ns : List Int) : unl (ns.map Sum.inl) = ns := by
  unfold unl
  rw [List.map_map]
  exact List.map_id' ns
section
variable {X : Cx}
end
end SCo

/-! dicts of one's own by tuples of ints, on data -/
namespace DL
open L2 PySem PySem.Spec PyProof.Rows SCo
open Evl (Ex ex_l ex_t sz_of)
section
variable {K : PySem.W.Frag} {T : Tb} {S : SA} {E : XK} {Hb H Hb1 H1 : Hp} {n n1 : Nat} {te : TE} {FE : DT}
def slotT (ρ : List SV) (i : Nat) (k : List (List Key) → List D → Prop) : Prop := match ρ[i]? with
  | some (.ot ks ds) => k ks ds
  | _ => False
theorem slotT_zero {ks : List (List Key)} {ds : List D} {ρ : List SV} {k : List (List Key) → List D → Prop} : slotT (.ot ks ds :: ρ) 0 k = k ks ds := rfl
theorem slotT_succ {s : SV} {ρ : List SV} {i : Nat} {k : List (List Key) → List D → Prop} : slotT (s :: ρ) (i + 1) k = slotT ρ i k := rfl
/-- the rest of the frame where the dict at p is rewritten -/
theorem Slots.putT {ρ : List SV} {σ : L2.St} {p : Addr} {kvs us : List (List Key × V)} (sl : Slots K S Hb H n ρ σ) (h1 : H p = some (.dT kvs)) (h3 : p ≠ S.a) (h4 : p ≠ S.l) (no : noOd ρ = true) : Slots K S Hb (upd H p (.dT us)) n ρ σ := by
  have keep : ∀ {b : Addr} {o : HO}, H b = some o → b ≠ p → upd H p (.dT us) b = some o := fun e hb => by rw [upd_ne hb]; exact e
  refine ⟨sl.len, fun j s e => ?_, sl.ap⟩
  obtain ⟨o, e1, e2⟩ := sl.ok j s e
  refine ⟨o, e1, ?_⟩
  cases s with
  | no => trivial
  | d x => exact e2
  | st =>
    obtain ⟨e3, st⟩ := e2
    obtain ⟨g1, g2, ls, cs, m, t, g3, g4, g5, g6, g7, g8, rest⟩ := st
    exact ⟨e3, g1, g2, ls, cs, m, t, g3, g4, g5, keep g6 h3.symm, keep g7 h4.symm, g8, rest⟩
  | ol zs =>
    obtain ⟨q, ws, e3, e4, rest⟩ := e2
    exact ⟨q, ws, e3, keep e4 (fun z => by rw [z, h1] at e4; cases e4), rest⟩
  | me y C ms es2 =>
    obtain ⟨e3, dx, fs, e4, rest⟩ := e2
    exact ⟨e3, dx, fs, keep e4 (fun z => by rw [z, h1] at e4; cases e4), rest⟩
  | od ks es2 => exact nomatch (noOd_get no e)
  | ot ks es2 => exact nomatch (noOd_get no e)
  | fv F =>
    obtain ⟨f, c, e3, e4, e5, rest⟩ := e2
    exact ⟨f, c, e3, e4, keep e5 (fun z => by rw [z, h1] at e5; exact codeO_no (o := .dT kvs) (fun _ z => by cases z) (Option.some.inj e5)), rest⟩
end
end DL

/-! [x[y] for y in sorted(x)], x a dict of one's own by tuples of ints; sorted(set(xs)) of pairs; xs.index(pair) -/
namespace DL
open L2 PySem PySem.Spec PyProof.Rows SCo
open Evl (Ex ex_l ex_t sz_of)
section
variable {K : PySem.W.Frag} {T : Tb} {S : SA} {E : XK} {Hb H Hb1 H1 : Hp} {n n1 : Nat} {te : TE} {FE : DT}
theorem vals_at {f : List Int → D} : ∀ {kvs : List (List Key × V)} {nss : List (List Int)}, kvs.map (·.1) = nss.map (fun ns => ns.map Sum.inl) → DnA K Hb (kvs.map (·.2)) (nss.map f) → ∀ y ∈ nss, ∃ v, valV kvs (y.map Sum.inl) = some v ∧ Dn K Hb v (f y)
  | [], [], _, _, y, hy => nomatch hy
  | [], _ :: _, e, _, _, _ => by cases e
  | _ :: _, [], e, _, _, _ => by cases e
  | (k, v) :: kvs, z :: nss, e, h, y, hy => by
    obtain ⟨e1, e2⟩ := List.cons.inj e
    have e1 : k = z.map Sum.inl := e1
    cases h with
    | cons h1 h2 =>
      by_cases hz : z = y
      · subst hz
        refine ⟨v, ?_, h1⟩
        unfold valV
        rw [List.find?_cons_of_pos (by simp [e1])]
        rfl
      · have hy' : y ∈ nss := (List.mem_cons.mp hy).resolve_left fun z0 => hz z0.symm
        obtain ⟨v', q1, q2⟩ := vals_at e2 h2 y hy'
        refine ⟨v', ?_, q2⟩
        have hk : k ≠ y.map Sum.inl := fun z0 => by
          rw [e1] at z0
          have z1 := congrArg unl z0
          rw [unl_inl, unl_inl] at z1
          exact hz z1
        unfold valV at q1 ⊢
        rw [List.find?_cons_of_neg (by simpa using hk)]
        exact q1
/-! ### xs.index(y), xs tuples of ints -/
def dT (ns : List Int) : PyData := .tuple (ns.map .int)
theorem toPs_ints : ∀ ns : List Int, toPs (ns.map D.int) = some (ns.map .int)
  | [] => rfl
  | n :: ns => by
    show (match toP (D.int n), toPs (ns.map D.int) with | some p, some ps => some (p :: ps) | _, _ => none) = _
    rw [toPs_ints ns]
    rfl
theorem toP_tup (ns : List Int) : toP (tupI ns) = some (dT ns) := by
  show (toPs (ns.map D.int)).map PyData.tuple = _
  rw [toPs_ints]
  rfl
theorem shaped_tup (ns : List Int) : SeqAt.shaped (dT ns) = true := by
  unfold SeqAt.shaped dT
  simp [PyData.canLay0, lay_ints ns, PyData.depth, depth_ints ns]
theorem eqv_ints : ∀ (a b : List Int), PyData.eqvAll (a.map PyData.int) (b.map PyData.int) = decide (a = b)
  | [], [] => by simp [PyData.eqvAll]
  | [], _ :: _ => by simp [PyData.eqvAll]
  | _ :: _, [] => by simp [PyData.eqvAll]
  | x :: a, y :: b => by
    simp only [List.map_cons, PyData.eqvAll, PyData.eqv, eqv_ints a b]
    by_cases h : x = y
    · subst h; simp
    · simp [h]
theorem eqv_dT (a b : List Int) : PyData.eqv (dT a) (dT b) = decide (a = b) := by
  unfold dT
  simp only [PyData.eqv]
  exact eqv_ints a b
end
end DL

/-! list(range(a, b)) -/
namespace DL
open L2 PySem PySem.Spec PyProof.Rows
open Evl (Ex ex_l ex_t sz_of)
section
variable {K : PySem.W.Frag} {T : Tb} {S : SA} {E : XK} {ta tb : TE} {FA FB : DT}
theorem hu65_of {k : Nat} {A : Around} (hr : Room k A) : A.units + 65 < cLine := by have := hr.un; omega
end
end DL

/-! list + list; in of lists -/
namespace SCo
open L2 PySem PySem.Spec PyProof.Rows
def rCatL (K : PySem.W.Frag) : R2 := fun x y H Q => ∃ l b xs zs, x = .ref l ∧ y = .ref b ∧ SqL K H l xs ∧ SqL K H b zs ∧ xs.length + zs.length ≤ sizeLine ∧ ∀ p, H p = none → Q (.ref p) (upd H p (.lst (xs ++ zs)))
theorem op_catL {X : Cx} : OpR X (binaryOp .Add) (rCatL X.K) := by
  intro pins s σ H x y v u Q I rx ry h
  obtain ⟨l, b, xs, zs, rfl, rfl, h1, h2, hz, q⟩ := h
  cases rx
  cases ry
  obtain ⟨its, r1, p1, z1⟩ := I.list h1
  obtain ⟨its2, r2, p2, z2⟩ := I.list h2
  obtain ⟨⟨c1, d1, x1, k1⟩, g1, e1, n1, f1⟩ := id p1.isList
  obtain ⟨⟨c2, d2, x2, k2⟩, g2, e2, n2, f2⟩ := id p2.isList
  dsimp only at e1 f1 e2 f2
  subst e1 f1 e2 f2
  have l1 := r1.length
  have l2 := r2.length
  refine concat_meets ⟨_, g1, rfl⟩ ⟨_, g2, rfl⟩ noFill_list_add seq_list_add PySem.F.slot_list_add PySem.F.entry_list_add (PySem.F.args_list_add_2 _ _) (list_addW l b its.toArray its2.toArray n1 n2 d1 d2 k1 k2 (by rw [List.size_toArray, List.size_toArray]; omega)) ⟨g1, g2, ?_⟩
  have e : its.toArray ++ its2.toArray = (its ++ its2).toArray := by simp
  rw [e]
  exact ⟨.ref _, _, I.lnew (t' := s.toks) (r1.append r2) (by rw [List.length_append]; omega), rfl, q _ I.fresh⟩
end SCo
namespace DL
open L2 PySem PySem.Spec PyProof.Rows SCo
open Evl (Ex ex_l ex_t sz_of)
section
variable {K : PySem.W.Frag} {T : Tb} {S : SA} {E : XK} {te : TE} {FE : DT}
def addLD : D → D → (D → Prop) → Prop
  | .lst xs, .lst ys, k => xs.length + ys.length ≤ 100000 ∧ k (.lst (xs ++ ys))
  | _, _, _ => False
theorem o2_addL : Op2 K (rCatL K) addLD := by
  intro T S x y a b Hb H n P Q w hx hy h q
  cases hx with
  | @lst a xs ds h1 h2 =>
    cases hy with
    | @lst b ys es h3 h4 =>
      obtain ⟨hl, h⟩ := h
      exact ⟨a, b, xs, ys, rfl, rfl, ex_l w.ex h1, ex_l w.ex h3, sz_of (by rw [h2.len, h4.len]; exact hl), fun p hp => q.new w hp (.lst (SqL.of upd_same) ((h2.app h4).up (Ex.new (free_of w.ex hp)))) h⟩
    | _ => exact h.elim
  | _ => exact h.elim
/-- an int in a list of ints -/
def inLI : D → D → (D → Prop) → Prop := fun a b k => ∃ (i : Int) (ns : List Int), a = .int i ∧ b = .lst (ns.map .int) ∧ k (.bl (ns.any (· == i)))
theorem toPs_intsL : ∀ ns : List Int, toP (.lst (ns.map D.int)) = some (.list (ns.map .int)) := fun ns => by
  show (toPs (ns.map D.int)).map PyData.list = _
  rw [toPs_ints]
  rfl
theorem any_eqv (i : Int) : ∀ ns : List Int, ((ns.map PyData.int).any fun z => PyData.eqv z (.int i)) = ns.any (· == i)
  | [] => rfl
  | n :: ns => by
    rw [List.map_cons, List.any_cons, List.any_cons, any_eqv i ns]
    rfl
theorem o2_inLI : Op2 K (rInD K) inLI := by
  intro T S x y a b Hb H n P Q w hx hy h q
  obtain ⟨i, ns, rfl, rfl, h⟩ := h
  refine ⟨.int i, ns.map .int, Dn.toDp _ (w.dn hx) rfl, Dn.toDp _ (w.dn hy) (toPs_intsL ns), rfl, shaped_ints ns, ?_⟩
  rw [any_eqv]
  exact q.now w (.bl _) h
end
end DL

/-! [..] * k -/
namespace DL
open L2 PySem PySem.Spec PyProof.Rows
open Evl (Ex ex_l ex_t sz_of)
section
variable {K : PySem.W.Frag} {T : Tb} {S : SA} {E : XK} {ta : TA} {GA : DTA}
theorem rep_dna {Hb : Hp} {vs : List V} {ds : List D} (h : DnA K Hb vs ds) : ∀ k : Nat, DnA K Hb (List.replicate k vs).flatten (List.replicate k ds).flatten
  | 0 => .nil
  | k + 1 => by
    rw [List.replicate_succ, List.replicate_succ, List.flatten_cons, List.flatten_cons]
    exact h.app (rep_dna h k)
end
end DL

/-! set(xs) of tuples of ints, xs of any length, few different ones -/
namespace SCo
open L2 PySem PySem.Spec PyProof.Rows
section
variable {P : Program} {w : World} {A : Around} {E : Value → Shared → Prop} {s : Shared}
variable {I : Addr} {fp wr : List Addr} {G : Array GenState → Array GenState → Prop} {n : Nat} {Pv : Nat → Value → Prop} {St : Nat → Shared → Prop} {R : Result → Shared → Prop} {S : Addr} {ks : List (Addr × List Int)} {h0 : Heap}
end
end SCo

/-! zip of three tuples of one length: as a walk, and as a value that a comprehension walks -/
namespace RZ
open PySem PySem.Calls PyProof.Rows PyProof.V PySem.Spec PySem.W L2
abbrev IsTri (h : Heap) (T : Addr) (a b c : Value) : Prop := h.get? T = some { cls := .type "tuple", data := .seq #[a, b, c] }
/-- where the zip of three tuples and its parts stand, in h, with what was elsewhere in h0 -/
structure Z3 (h0 h : Heap) (z TI TO i1 i2 i3 l1 l2 l3 : Addr) (f0 a b c : Value) (k1 k2 k3 : Nat) : Prop where
  zp : IsZip h z TI TO f0
  ti : IsTri h TI (.ref i1) (.ref i2) (.ref i3)
  to : IsTri h TO a b c
  one : h.IsTupleIter i1 l1 k1
  two : h.IsTupleIter i2 l2 k2
  thr : h.IsTupleIter i3 l3 k3
  keep : ∀ d o, d ∉ [z, TI, TO, i1, i2, i3] → h0.get? d = some o → h.get? d = some o
  sz : h.objs.size = h0.objs.size
section
variable {h0 h h' : Heap} {z TI TO i1 i2 i3 l1 l2 l3 : Addr} {f0 a b c : Value} {k1 k2 k3 : Nat}
theorem ap3 (D : [z, TI, TO, i1, i2, i3].Nodup) : (z ≠ TI ∧ z ≠ TO ∧ z ≠ i1 ∧ z ≠ i2 ∧ z ≠ i3) ∧ (TI ≠ TO ∧ TI ≠ i1 ∧ TI ≠ i2 ∧ TI ≠ i3) ∧ (TO ≠ i1 ∧ TO ≠ i2 ∧ TO ≠ i3) ∧ (i1 ≠ i2 ∧ i1 ≠ i3) ∧ i2 ≠ i3 := by
  simpa using D
theorem Z3.base (x : Z3 h0 h z TI TO i1 i2 i3 l1 l2 l3 f0 a b c k1 k2 k3) : Z3 h h z TI TO i1 i2 i3 l1 l2 l3 f0 a b c k1 k2 k3 := ⟨x.zp, x.ti, x.to, x.one, x.two, x.thr, fun _ _ _ g => g, rfl⟩
theorem Z3.push (x : Z3 h0 h z TI TO i1 i2 i3 l1 l2 l3 f0 a b c k1 k2 k3) (o : Obj) : Z3 (h.push o) (h.push o) z TI TO i1 i2 i3 l1 l2 l3 f0 a b c k1 k2 k3 :=
  ⟨Heap.get?_push_of_some _ x.zp, Heap.get?_push_of_some _ x.ti, Heap.get?_push_of_some _ x.to, x.one.at fun o e => Heap.get?_push_of_some _ e, x.two.at fun o e => Heap.get?_push_of_some _ e, x.thr.at fun o e => Heap.get?_push_of_some _ e, fun _ _ _ g => g, rfl⟩
theorem Z3.lt (x : Z3 h0 h z TI TO i1 i2 i3 l1 l2 l3 f0 a b c k1 k2 k3) : ∀ q ∈ [z, TI, TO, i1, i2, i3], q < h.objs.size := fun q hq => by
  simp only [List.mem_cons, List.not_mem_nil, or_false] at hq
  rcases hq with rfl | rfl | rfl | rfl | rfl | rfl
  · exact Heap.lt_size x.zp
  · exact Heap.lt_size x.ti
  · exact Heap.lt_size x.to
  · obtain ⟨_, e, _⟩ := x.one; exact Heap.lt_size e
  · obtain ⟨_, e, _⟩ := x.two; exact Heap.lt_size e
  · obtain ⟨_, e, _⟩ := x.thr; exact Heap.lt_size e
theorem Z3.tup (x : Z3 h0 h z TI TO i1 i2 i3 l1 l2 l3 f0 a b c k1 k2 k3) {l : Addr} {us : Array Value} (n : l ∉ [z, TI, TO, i1, i2, i3]) (hl : h0.IsTuple l us) : h.IsTuple l us := hl.at fun o g => x.keep _ o n g
end
section
variable {prog : Program} {w : World} {A : Around} {E : Value → Shared → Prop} {s : Shared}
end
end RZ
namespace RZ
open PySem PySem.Calls PyProof.Rows PyProof.V PySem.Spec PySem.W L2
theorem Z3.let {h0 h h' : Heap} {z TI TO i1 i2 i3 l1 l2 l3 : Addr} {f0 f1 a b c : Value} {k1 k2 k3 : Nat} (x : Z3 h0 h z TI TO i1 i2 i3 l1 l2 l3 f0 a b c k1 k2 k3) (D : [z, TI, TO, i1, i2, i3].Nodup) (hz : IsZip h' z TI TO f1) (e : Heap.SameBut z h h') : Z3 h' h' z TI TO i1 i2 i3 l1 l2 l3 f1 a b c k1 k2 k3 := by
  obtain ⟨⟨d1, d2, d3, d4, d5⟩, _⟩ := ap3 D
  exact ⟨hz, (e.2 _ d1.symm).trans x.ti, (e.2 _ d2.symm).trans x.to, x.one.at fun o g => (e.2 _ d3.symm).trans g, x.two.at fun o g => (e.2 _ d4.symm).trans g, x.thr.at fun o g => (e.2 _ d5.symm).trans g, fun _ _ _ g => g, rfl⟩
end RZ
namespace RZ
open PySem PySem.Calls PyProof.Rows PyProof.V PySem.Spec PySem.W L2
def drop (H : Hp) (ds : List Addr) : Hp := fun b => if b ∈ ds then none else H b
end RZ

/-! in of lists of tuples of ints; comprehensions with two fors -/
namespace DL
open L2 PySem PySem.Spec PyProof.Rows SCo
open Evl (Ex ex_l ex_t sz_of)
section
variable {K : PySem.W.Frag} {T : Tb} {S : SA} {E : XK} {Hb H Hb1 H1 : Hp} {n n1 : Nat} {te : TE} {FE : DT}
/-- a list of one's own, not frozen, grows by one -/
theorem Stp.grow {L : Addr} {accV : List V} {u : V} (st5 : Stp K T S Hb H n Hb1 H1 n1) (hL : H L = none) (eL5 : H1 L = some (.lst accV)) (fL5 : Hb1 L = none) (nSa : L ≠ S.a) (nSl : L ≠ S.l) : Stp K T S Hb H n Hb1 (upd H1 L (.lst (accV ++ [u]))) n1 := by
  have w5 := st5.wd
  have nT : ∀ q ∈ T, q.1 ≠ L := fun q hq z => by
    obtain ⟨ps, e, _⟩ := w5.tabs q hq
    rw [z, eL5] at e
    cases e
  refine ⟨st5.ex, ⟨fun b o e => ?_, fun q hq => ?_, w5.tb, ?_, ?_, ?_, w5.nt⟩, fun h0 => ?_, fun b o e1 e2 e3 e4 e5 => ?_, fun b e => st5.dm b (dm_upd (fun _ z => by cases z) b e)⟩
  · rw [upd_ne (fun z => by rw [z, fL5] at e; cases e)]
    exact w5.ex b o e
  · obtain ⟨ps, e, t1, t2⟩ := w5.tabs q hq
    refine ⟨ps, by rw [upd_ne (nT q hq)]; exact e, t1, fun pos cv hcv => ?_⟩
    obtain ⟨c, e1, e2⟩ := t2 pos cv hcv
    refine ⟨c, e1, ?_⟩
    rw [upd_ne (fun z => by rw [z, eL5] at e2; unfold LamX.CodeO at e2; cases e2)]
    exact e2
  · exact w5.sa.upd fun _ z => by cases z
  · exact w5.sl.upd fun _ z => by cases z
  · exact w5.sc.upd fun _ z => by cases z
  · obtain ⟨g1, g2, ls, cs, mm, t, g3, g4, g5, g6, g7, g8, rest⟩ := st5.st h0
    exact ⟨g1, g2, ls, cs, mm, t, g3, g4, g5, by rw [upd_ne nSa.symm]; exact g6, by rw [upd_ne nSl.symm]; exact g7, g8, rest⟩
  · have hb : b ≠ L := ne_of_none e1 hL
    rw [upd_ne hb]
    exact st5.own0 b o e1 e2 e3 e4 e5
/-- nothing but data in the slots -/
def plainS (ρ : List SV) : Bool := ρ.all fun s => match s with | .d _ => true | .no => true | _ => false
theorem Slots.plain {ρ : List SV} {σ : L2.St} {Hb' H' : Hp} {n' : Nat} (h : plainS ρ = true) (sl : Slots K S Hb H n ρ σ) (e : Ex Hb Hb') : Slots K S Hb' H' n' ρ σ where
  len := sl.len
  ok := fun i s es => by
    obtain ⟨o, e1, e2⟩ := sl.ok i s es
    refine ⟨o, e1, ?_⟩
    have hp := List.all_eq_true.mp h s (List.mem_of_getElem? es)
    cases s with
    | no => trivial
    | d x =>
      obtain ⟨v, q, hv⟩ := e2
      exact ⟨v, q, hv.up e⟩
    | _ => cases hp
  ap := fun i j p xs ys hne e1 e2 e3 e4 => by
    have hp := List.all_eq_true.mp h _ (List.mem_of_getElem? e1)
    cases hp
def compL (step : D → Nat → (List D → Nat → Prop) → Prop) : List D → Nat → (List D → Nat → Prop) → Prop
  | [], n, P => P [] n
  | x :: xs, n, P => step x n fun ds n' => compL step xs n' fun es n'' => P (ds ++ es) n''
def inLc (G1 : DTG) (FT : DTT) (FE : DT) (vs1 : List Nat) (ρ2 : List SV) : D → Nat → (Option D → Nat → Prop) → Prop := fun y n4 k1 => G1 y (wipeS ρ2 vs1) fun ρ3 => FT ρ3 n4 (fun b n5 => match b with | true => FE ρ3 n5 (fun d n6 => k1 (some d) n6) xF | false => k1 none n5) xF
def xnLc2 (FI : DTI) (G : DTG) (FI1 : DTI) (G1 : DTG) (FT : DTT) (FE : DT) (vs vs1 : List Nat) : DTL := fun ρ n P XP => FI ρ n (fun xs n1 => xs.length ≤ 1000 ∧
  compL (fun x n2 k => G x (wipeS ρ vs) fun ρ2 => plainS ρ2 = true ∧ FI1 ρ2 n2 (fun ys n3 => ys.length ≤ 64 ∧ compM (inLc G1 FT FE vs1 ρ2) ys n3 k) xF) xs n1 P) XP
theorem rdn_lc2 {wi wi1 : TI} {g g1 : TG} {tt1 : TT} {FI FI1 : DTI} {G G1 : DTG} {FT : DTT} {vs vs1 : List Nat} (hi : RdJ K T S E wi FI) (hg : RdG K T S vs g G) (hi1 : RdI K T S E0 wi1 FI1) (hg1 : RdG K T S vs1 g1 G1) (ht : RdT K T S E0 tt1 FT) (he : DL.Rd K T S E0 te FE) :
    RdN K T S E (tLc2 wi g tYes wi1 g1 tt1 te vs vs1) (xnLc2 FI G FI1 G1 FT FE vs vs1) := fun σ ρ Hb H n P XP Q w sl h q x =>
  hi σ ρ Hb H n _ XP _ w sl h (fun xs n1 Hb1 H1 J s src p => by
    obtain ⟨hlen, p⟩ := p
    intro L hL
    have nSa : L ≠ S.a := s.wd.sa.ne (fresh_none hL)
    have nSl : L ≠ S.l := s.wd.sl.ne (fresh_none hL)
    have nSc : L ≠ S.c := s.wd.sc.ne (fresh_none hL)
    refine ⟨fun i m H2 => m = xs.length - i ∧ i ≤ xs.length ∧ ∃ n2 Hb2 accV acc, Stp K T S Hb1 H1 n1 Hb2 H2 n2 ∧ H2 L = some (.lst accV) ∧ Hb2 L = none ∧ DnA K Hb2 accV acc ∧ acc.length ≤ 64 * i ∧
      compL (fun x n2 k => G x (wipeS ρ vs) fun ρ2 => plainS ρ2 = true ∧ FI1 ρ2 n2 (fun ys n3 => ys.length ≤ 64 ∧ compM (inLc G1 FT FE vs1 ρ2) ys n3 k) xF) (xs.drop i) n2 fun ds n5 => P (acc ++ ds) n5,
      ⟨xs.length, rfl, Nat.zero_le _, n1, Hb1, [], [], .newO s.wd hL, upd_same, free_of s.wd.ex hL, .nil, Nat.le_refl _, p⟩, ?_⟩
    rintro i m H2 ⟨rfl, hi2, n2, Hb2, accV, acc, s2, eL, fL, hacc, la, hc⟩
    obtain ⟨stop, go⟩ := src Hb2 H2 n2 i s2
    by_cases hlt : i < xs.length
    · have ex : xs[i]? = some xs[i] := List.getElem?_eq_getElem hlt
      obtain ⟨hgo, hy⟩ := go _ ex
      have ed : xs.drop i = xs[i] :: xs.drop (i + 1) := List.drop_eq_getElem_cons hlt
      rw [ed] at hc
      refine .inr ⟨hgo, fun H' => ∃ n' Hb' accV acc, Stp K T S Hb1 H1 n1 Hb' H' n' ∧ H' L = some (.lst accV) ∧ Hb' L = none ∧ DnA K Hb' accV acc ∧ acc.length ≤ 64 * (i + 1) ∧
        compL (fun x n2 k => G x (wipeS ρ vs) fun ρ2 => plainS ρ2 = true ∧ FI1 ρ2 n2 (fun ys n3 => ys.length ≤ 64 ∧ compM (inLc G1 FT FE vs1 ρ2) ys n3 k) xF) (xs.drop (i + 1)) n' fun ds n5 => P (acc ++ ds) n5,
        fun H' hN => ⟨xs.length - (i + 1), by omega, rfl, hlt, hN⟩, fun v H' y => ?_⟩
      obtain ⟨Hb3, s3, hv⟩ := item_step (n := n2) s2.wd (hy v H' y)
      have st3 := s2.trans s3
      have sl3 : Sl0 K S (fun _ => none) Hb3 H' n2 (wipeS ρ vs) (wipe σ vs) := ⟨((sl.step s).step st3).wiped vs, fun _ _ _ _ _ _ => fresh_none rfl⟩
      have ne : ∀ ps, HO.lst accV ≠ .tbl ps := fun ps z => by cases z
      refine hg v _ (wipe σ vs) (wipeS ρ vs) _ Hb3 H' n2 _ _ s3.wd sl3 hv hc fun ρ4 σ4 sl4 hw hT => ⟨hw.trans wipe_wipe, ?_⟩
      obtain ⟨eL3, fL3⟩ := s3.own L _ eL fL nSa nSl ne
      unfold tYes
      refine iteT ?_
      obtain ⟨hpl, hT⟩ := hT
      have step_eq : ∀ ds es : List D, acc ++ (ds ++ es) = (acc ++ ds) ++ es := fun ds es => by rw [List.append_assoc]
      simp only [step_eq] at hT
      refine hi1 σ4 ρ4 Hb3 H' n2 _ xF _ s3.wd sl4.sl hT (fun ys n4 Hb4 H4 J1 s4 src1 p4 => ?_) XOk.none
      obtain ⟨hlen1, p4⟩ := p4
      obtain ⟨eL4, fL4⟩ := s4.own L _ eL3 fL3 nSa nSl ne
      refine ⟨fun j k H5 => k = ys.length - j ∧ j ≤ ys.length ∧ ∃ n5 Hb5 accV5 acc5, Stp K T S Hb1 H1 n1 Hb5 H5 n5 ∧ Ex Hb4 Hb5 ∧ H5 L = some (.lst accV5) ∧ Hb5 L = none ∧ DnA K Hb5 accV5 acc5 ∧ acc5.length ≤ 64 * i + j ∧
        compM (inLc G1 FT FE vs1 ρ4) (ys.drop j) n5 fun ds n6 => compL (fun x n2 k => G x (wipeS ρ vs) fun ρ2 => plainS ρ2 = true ∧ FI1 ρ2 n2 (fun ys n3 => ys.length ≤ 64 ∧ compM (inLc G1 FT FE vs1 ρ2) ys n3 k) xF) (xs.drop (i + 1)) n6 fun es n7 => P ((acc5 ++ ds) ++ es) n7,
        ⟨ys.length, rfl, Nat.zero_le _, n4, Hb4, accV, acc, st3.trans s4, Ex.refl _, eL4, fL4, (hacc.up s3.ex).up s4.ex, by omega, p4⟩, ?_⟩
      rintro j k H5 ⟨rfl, hj2, n5, Hb5, accV5, acc5, s5, x5, eL5, fL5, hacc5, la5, hc5⟩
      obtain ⟨stop1, go1⟩ := src1 Hb5 H5 j x5 s5.wd.ex
      by_cases hjt : j < ys.length
      · have ey : ys[j]? = some ys[j] := List.getElem?_eq_getElem hjt
        obtain ⟨hgo1, hy1⟩ := go1 _ ey
        have edj : ys.drop j = ys[j] :: ys.drop (j + 1) := List.drop_eq_getElem_cons hjt
        rw [edj] at hc5
        refine .inr ⟨hgo1, fun H' => ∃ n5 Hb5 accV5 acc5, Stp K T S Hb1 H1 n1 Hb5 H' n5 ∧ Ex Hb4 Hb5 ∧ H' L = some (.lst accV5) ∧ Hb5 L = none ∧ DnA K Hb5 accV5 acc5 ∧ acc5.length ≤ 64 * i + (j + 1) ∧
          compM (inLc G1 FT FE vs1 ρ4) (ys.drop (j + 1)) n5 fun ds n6 => compL (fun x n2 k => G x (wipeS ρ vs) fun ρ2 => plainS ρ2 = true ∧ FI1 ρ2 n2 (fun ys n3 => ys.length ≤ 64 ∧ compM (inLc G1 FT FE vs1 ρ2) ys n3 k) xF) (xs.drop (i + 1)) n6 fun es n7 => P ((acc5 ++ ds) ++ es) n7,
          fun H' hN => ⟨ys.length - (j + 1), by omega, rfl, hjt, hN⟩, fun v6 H6 y6 => ?_⟩
        obtain ⟨Hb6, s6, hv6⟩ := item_step (n := n5) s5.wd (hy1 v6 H6 y6)
        have ne5 : ∀ ps, HO.lst accV5 ≠ .tbl ps := fun ps z => by cases z
        obtain ⟨eL6, fL6⟩ := s6.own L _ eL5 fL5 nSa nSl ne5
        have slp : Slots K S Hb6 H6 n5 ρ4 σ4 := Slots.plain hpl sl4.sl ((s4.ex.trans x5).trans s6.ex)
        have sl6 : Sl0 K S (fun _ => none) Hb6 H6 n5 (wipeS ρ4 vs1) (wipe σ4 vs1) := ⟨slp.wiped vs1, fun _ _ _ _ _ _ => fresh_none rfl⟩
        refine hg1 v6 _ (wipe σ4 vs1) (wipeS ρ4 vs1) _ Hb6 H6 n5 _ _ s6.wd sl6 hv6 hc5 fun ρ7 σ7 sl7 hw7 hT7 => ⟨hw7.trans wipe_wipe, ?_⟩
        refine ht σ7 ρ7 Hb6 H6 n5 _ xF _ s6.wd sl7.sl hT7 (fun b n8 Hb8 H8 s8 p8 => ?_) XOk.none
        obtain ⟨eL8, fL8⟩ := s8.own L _ eL6 fL6 nSa nSl ne5
        have hacc8 := (hacc5.up s6.ex).up s8.ex
        have st8 := (s5.trans s6).trans s8
        have x8 := (x5.trans s6.ex).trans s8.ex
        cases b with
        | false => exact iteF ⟨n8, Hb8, accV5, acc5, st8, x8, eL8, fL8, hacc8, by omega, p8⟩
        | true =>
          refine iteT ?_
          refine he σ7 ρ7 Hb8 H8 n8 _ xF _ s8.wd (sl7.sl.step s8) p8 (fun d u n9 Hb9 H9 s9 hu p9 => ?_) XOk.none
          obtain ⟨eL9, fL9⟩ := s9.own L _ eL8 fL8 nSa nSl ne5
          have hacc9 := hacc8.up s9.ex
          have st9 := st8.trans s9
          refine ⟨accV5, eL9, ?_, n9, Hb9, accV5 ++ [u], acc5 ++ [d], st9.grow hL eL9 fL9 nSa nSl, x8.trans s9.ex, upd_same, fL9, hacc9.app (.one hu), by simp; omega, ?_⟩
          · rw [hacc9.len]
            exact Nat.lt_of_lt_of_le (by omega : acc5.length < 100000) (sz_of (n := 100000) (Nat.le_refl _))
          · have e6 : ∀ ds, (acc5 ++ [d]) ++ ds = acc5 ++ (d :: ds) := fun ds => by simp
            simp only [e6]
            exact p9
      · have e : j = ys.length := by omega
        subst e
        rw [List.drop_length] at hc5
        refine .inl ⟨stop1 (Nat.le_refl _), n5, Hb5, accV5, acc5, s5, eL5, fL5, hacc5, by omega, ?_⟩
        have hc5 : compL _ (xs.drop (i + 1)) n5 fun es n7 => P ((acc5 ++ []) ++ es) n7 := hc5
        simp only [List.append_nil] at hc5
        exact hc5
    · have e : i = xs.length := by omega
      subst e
      refine .inl ⟨stop (Nat.le_refl _), ?_⟩
      rw [List.drop_length] at hc
      have hc : P (acc ++ []) n2 := hc
      rw [List.append_nil] at hc
      exact q acc L accV n2 Hb2 H2 (s.trans s2) (s.dm L (fresh_none hL)) eL fL hacc hc) x
def xLc2 (FI : DTI) (G : DTG) (FI1 : DTI) (G1 : DTG) (FT : DTT) (FE : DT) (vs vs1 : List Nat) : DT := fun ρ n P XP => xnLc2 FI G FI1 G1 FT FE vs vs1 ρ n (fun ds n1 => P (.lst ds) n1) XP
theorem rd_lc2 {wi wi1 : TI} {g g1 : TG} {tt1 : TT} {FI FI1 : DTI} {G G1 : DTG} {FT : DTT} {vs vs1 : List Nat} (hi : RdJ K T S E wi FI) (hg : RdG K T S vs g G) (hi1 : RdI K T S E0 wi1 FI1) (hg1 : RdG K T S vs1 g1 G1) (ht : RdT K T S E0 tt1 FT) (he : DL.Rd K T S E0 te FE) :
    DL.Rd K T S E (tLc2 wi g tYes wi1 g1 tt1 te vs vs1) (xLc2 FI G FI1 G1 FT FE vs vs1) := rd_of_new (rdn_lc2 hi hg hi1 hg1 ht he)
end
end DL

/-! len of a dict -/
namespace DL
open L2 PySem PySem.Spec PyProof.Rows
open Evl (Ex ex_l ex_t sz_of)
section
variable {K : PySem.W.Frag}
def rLenK : List V → Hp → VK → Prop := fun xs H Q => ∃ a kvs, xs = [V.ref a] ∧ H a = some (.dK kvs) ∧ Q (.int kvs.length) H
theorem call_lenK {X : Cx} : CallR X (.builtin "len") rLenK := call_lenD
def lenKD : D → (D → Prop) → Prop
  | .dic ks _, k => k (.int ks.length)
  | _, _ => False
theorem cal_lenK : Cal K rLenK (one1 lenKD) := by
  refine cal_one ?_
  intro T S v d Hb H n P Q w hv h q
  cases hv with
  | @dic a kvs ks ds h1 h2 h3 =>
    refine ⟨a, kvs, rfl, w.ex _ _ h1, q.now w (.int _) ?_⟩
    have h' : P (.int (ks.length : Nat)) n := h
    rw [← h2, List.length_map] at h'
    exact h'
  | _ => exact h.elim
end
end DL

/-! dict comprehensions whose keys are tuples -/
namespace SCo
open L2 PySem PySem.Spec PyProof.Rows PpSet
section
variable {X : Cx} {pins : List (Addr × Obj)} {σ : L2.St} {H : Hp} {s : Shared} {E : Value → Shared → Prop}
end
section
variable {X : Cx}
end
end SCo

/-! a dict of one's own by tuples, whose values are lists of one's own -/
namespace DL
open L2 PySem PySem.Spec PyProof.Rows SCo
open Evl (Ex ex_l ex_t sz_of)
section
variable {K : PySem.W.Frag} {T : Tb} {S : SA} {E : XK} {Hb H Hb1 H1 H0 : Hp} {n n1 : Nat} {te tk tv : TE} {FE : DT}
/-! ### the dict stands -/
structure Lots (K : PySem.W.Frag) (S : SA) (H0 : Hp) (i : Nat) (p : Addr) (ks : List (List Key)) (ls : List Addr) (σ : L2.St) (Hb H : Hp) (xss : List (List D)) : Prop where
  sl : σ[i]? = some (some (.ref p))
  dp : ∃ kvs, H p = some (.dT kvs) ∧ kvs.map (·.1) = ks ∧ kvs.map (·.2) = ls.map V.ref
  hb : Hb p = none
  na : p ≠ S.a
  nl : p ≠ S.l
  kn : ks.Nodup
  nd : ls.Nodup
  ln : ls.length = xss.length
  lst : ∀ (j : Nat) (l : Addr) (xs : List D), ls[j]? = some l → xss[j]? = some xs → ∃ vs, H l = some (.lst vs) ∧ Hb l = none ∧ DnA K Hb vs xs
  ap : ∀ l ∈ ls, l ≠ S.a ∧ l ≠ S.l ∧ Fresh H0 l
theorem Lots.step {i : Nat} {p : Addr} {ks : List (List Key)} {ls : List Addr} {σ : L2.St} {xss : List (List D)} (a : Stp K T S Hb H n Hb1 H1 n1) (h : Lots K S H0 i p ks ls σ Hb H xss) : Lots K S H0 i p ks ls σ Hb1 H1 xss where
  sl := h.sl
  dp := let ⟨kvs, e, r⟩ := h.dp; ⟨kvs, (a.own p _ e h.hb h.na h.nl fun _ z => by cases z).1, r⟩
  hb := let ⟨kvs, e, r⟩ := h.dp; (a.own p _ e h.hb h.na h.nl fun _ z => by cases z).2
  na := h.na
  nl := h.nl
  kn := h.kn
  nd := h.nd
  ln := h.ln
  lst := fun j l xs e1 e2 => by
    obtain ⟨vs, g1, g2, g3⟩ := h.lst j l xs e1 e2
    obtain ⟨n1, n2, _⟩ := h.ap l (List.mem_of_getElem? e1)
    obtain ⟨f1, f2⟩ := a.own l _ g1 g2 n1 n2 fun _ z => by cases z
    exact ⟨vs, f1, f2, g3.up a.ex⟩
  ap := h.ap
theorem Lots.slot {i : Nat} {p : Addr} {ks : List (List Key)} {ls : List Addr} {σ σ' : L2.St} {xss : List (List D)} (h : Lots K S H0 i p ks ls σ Hb H xss) (e : σ'[i]? = σ[i]?) : Lots K S H0 i p ks ls σ' Hb H xss :=
  ⟨by rw [e]; exact h.sl, h.dp, h.hb, h.na, h.nl, h.kn, h.nd, h.ln, h.lst, h.ap⟩
def noOwnB (ρ : List SV) : Bool := ρ.all fun s => !isOwn s
structure DEnG where
  nx : List SV → List (List D) → Nat → Prop
  rt : DQ
abbrev DTSG := DEnG → List SV → List (List D) → Nat → DX → Prop
def NxG (K : PySem.W.Frag) (T : Tb) (S : SA) (Hb H : Hp) (n : Nat) (Hc : Hp) (i : Nat) (p : Addr) (ks : List (List Key)) (ls : List Addr) (P : List SV → List (List D) → Nat → Prop) (Q : L2.St → Hp → Prop) : Prop :=
  ∀ ρ xss σ n' Hb' H', Ex Hc Hb' → Stp K T S Hb H n Hb' H' n' → Sl0 K S H Hb' H' n' ρ σ → Lots K S H i p ks ls σ Hb' H' xss → noOwnB ρ = true → P ρ xss n' → Q σ H'
theorem NxG.up {i : Nat} {p : Addr} {ks : List (List Key)} {ls : List Addr} {P : List SV → List (List D) → Nat → Prop} {Q : L2.St → Hp → Prop} {Hc Hc' : Hp} (e : Ex Hc Hc') (h : NxG K T S Hb H n Hc i p ks ls P Q) : NxG K T S Hb H n Hc' i p ks ls P Q :=
  fun ρ xss σ n' Hb' H' e' => h ρ xss σ n' Hb' H' (e.trans e')
variable {i j : Nat} {ks : List (List Key)} {t u : TS} {F G : DTSG}
/-- what the dict holds at its j-th key -/
theorem Lots.at {p : Addr} {ls : List Addr} {σ : L2.St} {xss : List (List D)} (h : Lots K S H0 i p ks ls σ Hb H xss) {j : Nat} {k : List Key} (e : ks[j]? = some k) : ∃ kvs l, H p = some (.dT kvs) ∧ valV kvs k = some (.ref l) ∧ ls[j]? = some l ∧ j < xss.length := by
  obtain ⟨kvs, g1, g2, g3⟩ := h.dp
  have hj : j < kvs.length := by
    have := (List.getElem?_eq_some_iff.mp e).1
    rwa [← g2, List.length_map] at this
  have hjl : j < ls.length := by
    have := congrArg List.length g3
    rw [List.length_map, List.length_map] at this
    omega
  have e1 : kvs[j].1 = k := by
    rw [← g2, List.getElem?_map, List.getElem?_eq_getElem hj] at e
    exact Option.some.inj e
  have e2 : kvs[j].2 = V.ref ls[j] := by
    have z : (kvs.map (·.2))[j]? = (ls.map V.ref)[j]? := by rw [g3]
    rw [List.getElem?_map, List.getElem?_map, List.getElem?_eq_getElem hj, List.getElem?_eq_getElem hjl] at z
    exact Option.some.inj z
  refine ⟨kvs, ls[j], g1, ?_, List.getElem?_eq_getElem hjl, by rw [← h.ln]; exact hjl⟩
  unfold valV
  have kn : (kvs.map (·.1)).Nodup := by rw [g2]; exact h.kn
  cases f : kvs.find? fun kv => decide (kv.1 = k) with
  | none => exact absurd (List.find?_eq_none.mp f kvs[j] (List.getElem_mem hj)) (by simp [e1])
  | some kv =>
    have hm := List.mem_of_find?_eq_some f
    have hk : kv.1 = k := by simpa using List.find?_some f
    obtain ⟨j2, hj2, e3⟩ := List.mem_iff_getElem.mp hm
    have : j2 = j := by
      have a1 : (kvs.map (·.1))[j2]'(by rw [List.length_map]; exact hj2) = (kvs.map (·.1))[j]'(by rw [List.length_map]; exact hj) := by rw [List.getElem_map, List.getElem_map, e3, e1, hk]
      exact (List.getElem_inj kn).mp a1
    subst this
    rw [← e3]
    exact congrArg some e2
end
end DL

/-! == and != of instances whose class has an __eq__ of its own -/
namespace OE
open PySem PySem.Spec PyProof.Rows PySem.SeqAt
section
variable {M : Model} {prog : Program} {w : PySem.World} {A : Around} {E : Value → Shared → Prop} {s : Shared} {K : PySem.W.Frag} {x C f : Addr} {ox : Obj} {od : Option Obj} {b tb : Value}
end
end OE
namespace SCo
open L2 PySem PySem.Spec PyProof.Rows
section
variable {X : Cx} {k : Nat} {C : Addr} {sp : Sp}
end
end SCo
namespace DL
open L2 PySem PySem.Spec PyProof.Rows SCo
open Evl (Ex ex_l ex_t sz_of)
section
variable {K : PySem.W.Frag} {T : Tb} {S : SA} {E : XK} {ta tb : TE} {F G : DT}
end
end DL

/-! _law_told: what work() made and what was caught, as two values -/
namespace DL
open L2 PySem PySem.Spec PyProof.Rows
open Evl (Ex ex_l ex_t sz_of)
section
variable {X : Cx} {pins : List (Addr × Obj)} {σ : L2.St} {H : Hp} {s : Shared}
end
section
variable {X : Cx} {T : Tb}
end
section
variable {X : Cx}
end
section
variable {K : PySem.W.Frag} {T : Tb} {S : SA} {E : XK}
end
section
variable {K : PySem.W.Frag}
/-- y not in x, x a list of ints -/
def notInLI : D → D → (D → Prop) → Prop := fun a b k => ∃ (i : Int) (ns : List Int), a = .int i ∧ b = .lst (ns.map .int) ∧ k (.bl (!ns.any (· == i)))
theorem o2_notInLI : Op2 K (rNotInD K) notInLI := by
  intro T S x y a b Hb H n P Q w hx hy h q
  obtain ⟨i, ns, rfl, rfl, h⟩ := h
  refine ⟨.int i, ns.map .int, Dn.toDp _ (w.dn hx) rfl, Dn.toDp _ (w.dn hy) (toPs_intsL ns), rfl, shaped_ints ns, ?_⟩
  rw [any_eqv]
  exact q.now w (.bl _) h
end
end DL

/-! xs[a], xs[b] = e, f of a list of one's own; in, not in, index of a list of anything written -/
namespace DL
open L2 PySem PySem.Spec PyProof.Rows SCo
open Evl (Ex ex_l ex_t sz_of)
section
variable {K : PySem.W.Frag} {T : Tb} {S : SA} {E : XK} {te te2 : TE} {FE FE2 : DT}
end
end DL

/-! a, b, c = e1, e2, e3 with lists of one's own; [..] * e, a list of one's own -/
namespace DL
open L2 PySem PySem.Spec PyProof.Rows
open Evl (Ex ex_l ex_t sz_of)
section
variable {K : PySem.W.Frag} {T : Tb} {S : SA} {E : XK} {te te2 te3 : TE}
def xsPar3M (i j l : Nat) (F G M : DTM) : DTS := fun DD ρ n XP => F ρ n (fun s n1 => G ρ n1 (fun t n2 => M ρ n2 (fun u n3 => DD.nx (((ρ.set i s).set j t).set l u) n3) XP) XP) XP
theorem rds_par3M {i j l : Nat} {F G M : DTM} (h1 : RdM K T S E te F) (h2 : RdM K T S E te2 G) (h3 : RdM K T S E te3 M) : RdS K T S E (tPar3 i j l (tCons te (tCons te2 (tCons te3 tNil)))) (xsPar3M i j l F G M) := fun σ ρ Hb0 H0 n0 Hb H n DD XP D a sl h q x =>
  h1 σ ρ Hb H n _ XP _ a.wd sl.sl h (fun s v n1 Hb1 H1 s1 m1 p => by
    have sl1 := Sl0.setM (i := i) a (sl.step s1) m1 (m1.apart sl.sl)
    refine h2 σ ρ Hb1 H1 n1 _ XP _ s1.wd (sl.step s1).sl p (fun t u n2 Hb2 H2 s2 m2 p2 => ?_) (x.step (a.trans s1))
    have sl2 := Sl0.setM (i := j) (a.trans s1) (sl1.step s2) m2 (m2.apart sl1.sl)
    refine h3 σ ρ Hb2 H2 n2 _ XP _ s2.wd ((sl.step s1).step s2).sl p2 (fun r w n3 Hb3 H3 s3 m3 p3 => ?_) (x.step ((a.trans s1).trans s2))
    have sl3 := Sl0.setM (i := l) ((a.trans s1).trans s2) (sl2.step s3) m3 (m3.apart sl2.sl)
    exact ⟨v, u, w, rfl, q.nx _ _ n3 Hb3 H3 ((s1.ex.trans s2.ex).trans s3.ex) (((a.trans s1).trans s2).trans s3) sl3 p3⟩) (x.step a)
def xnRepL (G : DTA) (F : DT) : DTL := fun ρ n P XP => G ρ n (fun ss n1 => ∃ ds, allD ss = some ds ∧ ds.length ≤ 100 ∧ F ρ n1 (fun d n2 => ∃ c : Nat, d = .int (c : Int) ∧ c ≤ 100 ∧ P (List.replicate c ds).flatten n2) XP) XP
theorem rdn_repL {ta : TA} {GA : DTA} {FE : DT} (h1 : RdA K T S E ta GA) (h2 : DL.Rd K T S E te FE) : RdN K T S E (tOp rRep (tLst ta) te) (xnRepL GA FE) := fun σ ρ Hb H n P XP Q w sl h q x =>
  h1 σ ρ Hb H n _ XP _ w sl h (fun ss vs n1 Hb1 H1 s ha p => by
    obtain ⟨ds, e, hl, p⟩ := p
    have hd := ha.allD e
    refine ⟨sz_of (by rw [hd.len]; omega), fun a hp => ?_⟩
    have s2 : Stp K T S Hb1 H1 n1 Hb1 (upd H1 a (.lst vs)) n1 := .newO s.wd hp
    refine h2 σ ρ Hb1 _ n1 _ XP _ s2.wd ((sl.step s).step s2) p (fun d u n2 Hb2 H2 s3 hu p => ?_) (x.step (s.trans s2))
    obtain ⟨c, rfl, hc, p⟩ := p
    cases hu
    obtain ⟨g1, g2⟩ := s3.own a _ upd_same (free_of s.wd.ex hp) (s.wd.sa.ne (fresh_none hp)) (s.wd.sl.ne (fresh_none hp)) (fun ps z => by cases z)
    have hm : ds.length * c ≤ 100 * 100 := Nat.mul_le_mul hl hc
    have hd3 := hd.up s3.ex
    have st := (s.trans s2).trans s3
    refine ⟨a, (c : Int), vs, rfl, rfl, g1, by omega, by omega, sz_of (by rw [hd3.len, Int.toNat_natCast]; omega), fun b hb => ?_⟩
    exact q _ b _ n2 Hb2 _ (st.trans (.newO s3.wd hb)) (st.dm b (fresh_none hb)) upd_same (free_of s3.wd.ex hb) (rep_dna hd3 _) (by rw [Int.toNat_natCast]; exact p)) x
end
end DL

/-! zip of a list and a tuple, and of a tuple and a list -/
namespace RZ
open PySem PySem.Spec PyProof.Rows L2
theorem sep_of {z TI TO i1 i2 a b : Addr} (D : ZipApart z TI TO i1 i2 a b) : ZipSep2 z TI TO i1 i2 [i1, a] [i2, b] where
  TIz := D.TIz
  TOz := D.TOz
  TITO := D.TITO
  TIi1 := D.TIi1
  mem1 := by simp
  zf1 := by simp only [List.mem_cons, List.not_mem_nil, or_false, not_or]; exact ⟨D.i1z.symm, D.l1z.symm⟩
  Tf1 := by simp only [List.mem_cons, List.not_mem_nil, or_false, not_or]; exact ⟨D.TOi1, D.l1TO.symm⟩
  TIi2 := D.TIi2
  mem2 := by simp
  zf2 := by simp only [List.mem_cons, List.not_mem_nil, or_false, not_or]; exact ⟨D.i2z.symm, D.l2z.symm⟩
  Tf2 := by simp only [List.mem_cons, List.not_mem_nil, or_false, not_or]; exact ⟨D.TOi2, D.l2TO.symm⟩
  sep1_2 := by simp only [List.mem_cons, List.not_mem_nil, or_false, not_or]; exact ⟨D.i12, D.l2i1.symm⟩
  sep2_1 := by simp only [List.mem_cons, List.not_mem_nil, or_false, not_or]; exact ⟨D.i12.symm, D.l1i2.symm⟩
/-- what is left of a walk -/
theorem from_list {prog : Program} {w : World} {A : Around} (hh : A.handled = none) (it l : Addr) (hne : l ≠ it) (items : Array Value) (i : Nat) :
    Draws prog w A it [it, l] (items.size - i) (fun j v => items[i + j]? = some v) (fun j h => h.IsListIter it l (i + j) ∧ h.IsList l items) where
  live := fun _ _ st => let ⟨o, ho, _⟩ := st.1; ⟨o, ho⟩
  frame := fun _ _ _ st hk => ⟨st.1.at fun o e => hk it (by simp) o e, st.2.at fun o e => hk l (by simp) o e⟩
  item := fun j s Q E hi st hQ => wpAny_nextOf_list_item st.1 st.2 (x := items[i + j]'(by omega)) (by simp <;> omega) fun h' h1 h2 => hQ _ h' s.toks (by simp <;> omega) ⟨h1, st.2.extBut h2.extBut hne⟩ h2
  done := fun s Q E st hE => wpAny_nextOf_list_end hh st.1 st.2 (by simp <;> omega) hE
theorem from_tuple {prog : Program} {w : World} {A : Around} (hh : A.handled = none) (it l : Addr) (hne : l ≠ it) (items : Array Value) (i : Nat) :
    Draws prog w A it [it, l] (items.size - i) (fun j v => items[i + j]? = some v) (fun j h => h.IsTupleIter it l (i + j) ∧ h.IsTuple l items) where
  live := fun _ _ st => let ⟨o, ho, _⟩ := st.1; ⟨o, ho⟩
  frame := fun _ _ _ st hk => ⟨st.1.at fun o e => hk it (by simp) o e, st.2.at fun o e => hk l (by simp) o e⟩
  item := fun j s Q E hi st hQ => wpAny_nextOf_tuple_item st.1 st.2 (x := items[i + j]'(by omega)) (by simp <;> omega) fun h' h1 h2 => hQ _ h' s.toks (by simp <;> omega) ⟨h1, st.2.extBut h2.extBut hne⟩ h2
  done := fun s Q E st hE => wpAny_nextOf_tuple_end hh st.1 st.2 (by simp <;> omega) hE
/-- the list at a and the tuple at b as they stand at each turn, the items in new pairs -/
def ItzM (K : PySem.W.Frag) (a b : Addr) : It :=
  ⟨fun i H => ∃ (xs ys : List V) (x y : V), SqL K H a xs ∧ SqT K H b ys ∧ xs[i]? = some x ∧ ys[i]? = some y,
    fun i H v H' => ∃ T x y, v = .ref T ∧ H T = none ∧ H' = upd H T (.tup [x, y]) ∧ (∀ xs, SqL K H a xs → xs[i]? = some x) ∧ ∀ ys, SqT K H b ys → ys[i]? = some y,
    fun i H => ∃ xs ys : List V, SqL K H a xs ∧ SqT K H b ys ∧ (xs.length ≤ i ∨ ys.length ≤ i)⟩
theorem turn_zipM {P : Program} {w : World} {K : PySem.W.Frag} {elts : List Expr} {kk : Nat} {tpos : Pos} {a b z TI TO i1 i2 : Addr} (D : ZipApart z TI TO i1 i2 a b) :
    Turn P w K (.Tuple elts kk tpos) (ItzM K a b) [z, TI, TO, i1, i2] z (fun i h => IsZip h z TI TO .none ∧ IsPair h TI (.ref i1) (.ref i2) ∧ (∃ x y, IsPair h TO x y) ∧ h.IsListIter i1 a i ∧ h.IsTupleIter i2 b i) where
  mem := by simp
  obj := fun i h st c hc => by
    obtain ⟨hz, hTI, ⟨x, y, hTO⟩, ⟨o1, e1, _, d1⟩, ⟨o2, e2, _, d2⟩⟩ := st
    have e' : c = z ∨ c = TI ∨ c = TO ∨ c = i1 ∨ c = i2 := by simpa using hc
    rcases e' with q | q | q | q | q
    · rw [q]; exact ⟨_, hz, fun v q => nomatch q⟩
    · rw [q]; exact ⟨_, hTI, fun v q => nomatch q⟩
    · rw [q]; exact ⟨_, hTO, fun v q => nomatch q⟩
    · rw [q]; exact ⟨o1, e1, fun v q => by rw [d1] at q; cases q⟩
    · rw [q]; exact ⟨o2, e2, fun v q => by rw [d2] at q; cases q⟩
  keep := fun i h h' st k => by
    obtain ⟨hz, hTI, ⟨x, y, hTO⟩, h1, h2⟩ := st
    exact ⟨k z (by simp) _ hz, k TI (by simp) _ hTI, ⟨x, y, k TO (by simp) _ hTO⟩, h1.at fun o q => k i1 (by simp) o q, h2.at fun o q => k i2 (by simp) o q⟩
  item := by
    intro X hP hw hK hc i pins s σ H E I hf st hg
    subst hP hw hK
    obtain ⟨hz, hTI, ⟨x0, y0, hTO⟩, h1, h2⟩ := st
    obtain ⟨xs, ys, x, y, hqx, hqy, hx, hy⟩ := hg
    obtain ⟨its, rv, p, _⟩ := I.list hqx
    obtain ⟨its2, rv2, p2, _⟩ := I.tuple hqy
    obtain ⟨u, hu, ru⟩ := rv.get hx
    obtain ⟨u2, hu2, ru2⟩ := rv2.get hy
    have hzl : z < s.heap.objs.size := Heap.lt_size hz
    have hh : X.A.handled = none := I.ok.hd hc
    have L1 : i < its.toArray.size := by rw [List.size_toArray]; exact (List.getElem?_eq_some_iff.mp hu).1
    have L2' : i < its2.toArray.size := by rw [List.size_toArray]; exact (List.getElem?_eq_some_iff.mp hu2).1
    refine wpAny_pyNext_zipD2_item (sep_of D) (Draws.list (show X.A.in1.handled = none from hh) i1 a D.l1i1 its.toArray) (Draws.tuple (show X.A.in1.handled = none from hh) i2 b D.l2i2 its2.toArray) hz hTI hTO ⟨h1, p.isList⟩ ⟨h2, p2⟩ L1 L2' fun x1 x2 h' tk y1 y2 z' TO' s1' s2' hT hsz hk => ?_
    have ex1 : x1 = u := by
      have y1 : its.toArray[i]? = some x1 := y1
      rw [List.getElem?_toArray, hu] at y1
      exact (Option.some.inj y1).symm
    have ex2 : x2 = u2 := by
      have y2 : its2.toArray[i]? = some x2 := y2
      rw [List.getElem?_toArray, hu2] at y2
      exact (Option.some.inj y2).symm
    subst ex1 ex2
    have h1' := s1'.1
    have h2' := s2'.1
    refine ⟨_, rfl, wpAny_letOwnedTupleGo_zip (s := { s with heap := h', toks := tk }) z' fun h'' z'' sb => ?_⟩
    have hT2 : h''.get? s.heap.objs.size = some { cls := .type "tuple", data := .seq #[x1, x2] } := (sb.2 _ (Nat.ne_of_gt hzl)).trans hT
    have new : ObjOk X.prog X.w (upd H s.heap.objs.size (.tup [x, y])) h'' s.heap.objs.size (.tup [x, y]) :=
      ⟨by show 2 ≤ sizeLine; decide, [x1, x2], .cons ru (.cons ru2 .nil), ⟨_, hT2, rfl, _, rfl⟩⟩
    have I1 : Inv X pins σ (upd H s.heap.objs.size (.tup [x, y])) { s with heap := h'', toks := tk } :=
      I.turnedNew (t' := tk) (ch := [z, TI, TO, i1, i2]) (fun c o hb q => (sb.2 c (fun q' => hb (by simp [q']))).trans (hk c o (fun q' => hb (by simp [q'])) (fun q' => hb (by simp [q'])) (fun q' => hb (by simp [q'])) (fun q' => hb (by simp [q'])) q)) hf (Nat.le_refl _) new
    refine ⟨.ref s.heap.objs.size, _, I1, rfl, ⟨_, x, y, rfl, I.hok.fresh (Nat.le_refl _), rfl, fun l hl => by rw [I.list_inj hl hqx]; exact hx, fun l hl => by rw [I.tuple_inj hl hqy]; exact hy⟩, ⟨z'', ?_, ⟨x1, x2, ?_⟩, ?_, ?_⟩, fun c hcm => ?_⟩
    · exact (sb.2 _ D.TIz).trans (hk _ _ D.TIz D.TITO D.TIi1 D.TIi2 hTI)
    · exact (sb.2 _ D.TOz).trans TO'
    · exact h1'.at fun o q => (sb.2 _ D.i1z).trans q
    · exact h2'.at fun o q => (sb.2 _ D.i2z).trans q
    · have hlt : c < s.heap.objs.size := by
        have e' : c = z ∨ c = TI ∨ c = TO ∨ c = i1 ∨ c = i2 := by simpa using hcm
        rcases e' with q | q | q | q | q
        · rw [q]; exact hzl
        · rw [q]; exact Heap.lt_size hTI
        · rw [q]; exact Heap.lt_size hTO
        · rw [q]; obtain ⟨_, e1, _⟩ := h1; exact Heap.lt_size e1
        · rw [q]; obtain ⟨_, e2, _⟩ := h2; exact Heap.lt_size e2
      rw [upd_ne (Nat.ne_of_lt hlt)]
      exact (hf c hcm).1
  done := by
    intro X hP hw hK hc i pins s σ H E I hf st hg
    subst hP hw hK
    obtain ⟨hz, hTI, ⟨x0, y0, hTO⟩, h1, h2⟩ := st
    obtain ⟨xs, ys, hqx, hqy, hend⟩ := hg
    obtain ⟨its, rv, p, _⟩ := I.list hqx
    obtain ⟨its2, rv2, p2, _⟩ := I.tuple hqy
    have l1 := rv.length
    have l2 := rv2.length
    have hh : X.A.handled = none := I.ok.hd hc
    have s1 : its.toArray.size = xs.length := by rw [List.size_toArray, ← l1]
    have s2 : its2.toArray.size = ys.length := by rw [List.size_toArray, ← l2]
    refine wpAny_pyNext_zipD2_end (i := 0) (sep_of D) (from_list (show X.A.in1.handled = none from hh) i1 a D.l1i1 its.toArray i) (from_tuple (show X.A.in1.handled = none from hh) i2 b D.l2i2 its2.toArray i) hz hTI hTO ⟨h1, p.isList⟩ ⟨h2, p2⟩ (Nat.zero_le _) (Nat.zero_le _) (by omega) fun h' tk hk => ⟨rfl, I.turnedL (t' := tk) (ch := [z, TI, TO, i1, i2]) (fun c o hb q =>
      hk c o (fun q' => hb (by simp [q'])) (fun q' => hb (by simp [q'])) (fun q' => hb (by simp [q'])) (fun q' => hb (by simp [q'])) q) hf⟩
  self := fun A i s Q E st h => wpAny_pyIter_zip st.1 h
def iZipM (K : PySem.W.Frag) (ta : TA) : TI := fun σ H R => ta σ H fun vs H1 => ∃ a b xs ys, vs = [.ref a, .ref b] ∧ SqL K H1 a xs ∧ SqT K H1 b ys ∧ R (ItzM K a b) H1
theorem pi_zipM {X : Cx} {e e2 : Expr} {ta : TA} {p pos tpos : Pos} {elts : List Expr} {kk : Nat} (hg : Gl X "zip") (hm : X.mg "zip" = none) (ha : PA X [e, e2] ta)
    (hs : starEach [e, e2] X.env = (false, eval e X.env) :: starEach [e2] X.env := by rfl) (hpl : (backTo pos (starEach [e2] X.env)).any (·.1) = false := by rfl) :
    PI X (.Tuple elts kk tpos) (.Call (.Name "zip" p) [e, e2] [] pos) (iZipM X.K ta) := by
  refine ⟨fun pins s σ H R I h => ?_⟩
  refine Call_ (ld_blt I hg hm PyProof.Rows.boot_zip (PyProof.Rows.callWith_type1 (thn (ha.run pos pins s σ H _ I h) fun us s1 ⟨vs, H1, I1, r1, q1⟩ => ?_) hs hpl))
  obtain ⟨a, b, xs, ys, ex, hqx, hqy, q⟩ := q1
  subst ex
  cases r1 with
  | cons r rr =>
    cases rr with
    | cons r' rr =>
      cases rr
      cases r
      cases r'
      have fresh5 : ∀ c, c ∈ [s1.heap.objs.size + 4, s1.heap.objs.size + 2, s1.heap.objs.size + 3, s1.heap.objs.size, s1.heap.objs.size + 1] → FpOk X pins H1 c := fun c hcm => by
        have e' : c = s1.heap.objs.size + 4 ∨ c = s1.heap.objs.size + 2 ∨ c = s1.heap.objs.size + 3 ∨ c = s1.heap.objs.size ∨ c = s1.heap.objs.size + 1 := by simpa using hcm
        have hle : s1.heap.objs.size ≤ c := by
          rcases e' with z | z | z | z | z
          · rw [z]; exact Nat.le_add_right _ _
          · rw [z]; exact Nat.le_add_right _ _
          · rw [z]; exact Nat.le_add_right _ _
          · rw [z]; exact Nat.le_refl _
          · rw [z]; exact Nat.le_add_right _ _
        exact I1.fpOk hle (I1.hok.fresh hle)
      obtain ⟨its, rv, p1, _⟩ := I1.list hqx
      obtain ⟨its2, rv2, p2, _⟩ := I1.tuple hqy
      obtain ⟨o2, ho2, _⟩ := id p2
      refine zip_begins2 (begins_list a its.toArray) (begins_tuple b its2.toArray) p1.isList (show s1.heap.IsTuple b its2.toArray from p2) fun h' hz hTI hTO h1 h2 hsz hk => wpAny_pyIter_zip hz ?_
      have I2 : Inv X pins σ H1 { s1 with heap := h' } := I1.kept (t' := s1.toks) hk
      exact ⟨s1.heap.objs.size + 4, [s1.heap.objs.size + 4, s1.heap.objs.size + 2, s1.heap.objs.size + 3, s1.heap.objs.size, s1.heap.objs.size + 1], _, _, H1, rfl, I2, turn_zipM (PySem.W.ktu_apart s1.heap.objs.size a b p1.lt (Heap.lt_size ho2)), ⟨hz, hTI, ⟨_, _, hTO⟩, ⟨_, h1, rfl, rfl⟩, ⟨_, h2, rfl, rfl⟩⟩, fresh5, q⟩
end RZ
namespace DL
open L2 PySem PySem.Spec PyProof.Rows
open Evl (Ex ex_l ex_t sz_of)
section
variable {K : PySem.W.Frag} {T : Tb} {S : SA} {E : XK}
theorem src_zipM {Hb : Hp} {a b : Addr} {xs ys : List V} {ds es : List D} (h : SqL K Hb a xs) (hd : DnA K Hb xs ds) (g : SqT K Hb b ys) (gd : DnA K Hb ys es) : SrcOk K (RZ.ItzM K a b) Hb (zipD ds es) := fun Hb1 H1 i e1 e2 => by
  have h1 := ex_l e2 (ex_l e1 h)
  have g1 := ex_t e2 (ex_t e1 g)
  refine ⟨fun hi => ⟨xs, ys, h1, g1, ?_⟩, fun d e => ?_⟩
  · unfold zipD at hi
    rw [List.length_map, List.length_zip] at hi
    rw [hd.len, gd.len]
    omega
  · obtain ⟨x, y, ex, ey, rfl⟩ := zipD_get e
    obtain ⟨v, ev, hv⟩ := hd.get ex
    obtain ⟨u, eu, hu⟩ := gd.get ey
    refine ⟨⟨xs, ys, v, u, h1, g1, ev, eu⟩, fun z H' q => ?_⟩
    obtain ⟨p, x', y', rfl, hp, rfl, f1, f2⟩ := q
    have z1 := f1 xs h1
    have z2 := f2 ys g1
    rw [ev] at z1
    rw [eu] at z2
    cases z1
    cases z2
    have ex := Ex.new (o := .tup [v, u]) (free_of e2 hp)
    exact .inr ⟨p, _, hp, rfl, (fun _ z => by cases z), .tup (SqT.of upd_same) (.cons ((hv.up e1).up ex) (.cons ((hu.up e1).up ex) .nil))⟩
def xiZipM (G : DTA) : DTI := fun ρ n P XP => G ρ n (fun ss n1 => match ss with
  | [.d (.lst xs), .d (.tup ys)] => P (zipD xs ys) n1
  | _ => False) XP
theorem rdi_zipM {ta : TA} {GA : DTA} (h1 : RdA K T S E ta GA) : RdI K T S E (RZ.iZipM K ta) (xiZipM GA) := fun σ ρ Hb H n P XP R w sl h q x =>
  h1 σ ρ Hb H n _ XP _ w sl h (fun ss vs n1 Hb1 H1 s ha p => by
    match ss, ha, p with
    | [.d (.lst xs), .d (.tup ys)], ha, p =>
      obtain ⟨v, u, rfl, hv, hu⟩ := Args.two (ss := []) ha
      cases hv with
      | @lst a as ds g1 g2 =>
        cases hu with
        | @tup b bs es g3 g4 => exact ⟨a, b, as, bs, rfl, ex_l s.wd.ex g1, ex_t s.wd.ex g3, q _ n1 Hb1 H1 _ s (src_zipM g1 g2 g3 g4) p⟩) x
end
end DL

/-! a, b = e, e a list -/
namespace DL
open L2 PySem PySem.Spec PyProof.Rows
open Evl (Ex ex_l ex_t sz_of)
section
variable {K : PySem.W.Frag} {T : Tb} {S : SA} {E : XK}
def xgTwoL (i j : Nat) : DTG := fun d ρ P => match d with
  | .lst [a, b] => P ((ρ.set i (.d a)).set j (.d b))
  | _ => False
theorem rdg_twoL {i j : Nat} {vs : List Nat} (h : i ∈ vs) (h' : j ∈ vs) : RdG K T S vs (gLst K 2 (gCons (gName i) (gCons (gName j) gNil))) (xgTwoL i j) := fun v d σ ρ H0 Hb H n P Q w sl hd p q => by
  cases hd with
  | @lst a xs ds h1 h2 =>
    cases h2 with
    | nil => exact p.elim
    | @cons v1 vs1 d1 ds1 g1 g2 =>
      cases g2 with
      | nil => exact p.elim
      | @cons v2 vs2 d2 ds2 g3 g4 =>
        cases g4 with
        | cons _ _ => exact p.elim
        | nil => exact ⟨a, [v1, v2], rfl, ex_l w.ex h1, rfl, v1, [v2], rfl, v2, [], rfl, rfl, q _ _ ((sl.set g1).set g3) (by rw [wipe_set h', wipe_set h]) p⟩
  | _ => exact p.elim
end
end DL

/-! lambdas as data, and their call -/
namespace DL
open L2 PySem PySem.Spec PyProof.Rows
open Evl (Ex ex_l ex_t sz_of)
section
variable {P : Program} {w : PySem.World} {mg : Str → Option Value} {base : Heap} {K : PySem.W.Frag} {T : Tb} {S : SA} {E : XK} {Hb H Hb1 H1 : Hp} {n n1 k k2 : Nat} {te : TE} {FE : DT} {ta : TA} {GA : DTA}
/-- lambda x: e, as a value -/
def xLamD (LD : LamP) (j : Nat) (G : D → Nat → DQ → DX → Prop) : DT := fun ρ n P _ => ρ[j]? = some .st ∧ ∀ F, LD F G → P (.lam F) n
theorem rd_lamD {F : FV} {j : Nat} {LD : LamP} {G : D → Nat → DQ → DX → Prop} (ok : LD F G) : DL.Rd K T S E (tLamV T F) (xLamD LD j G) := fun σ ρ Hb H n P XP Q wd sl h q x => by
  obtain ⟨ej, h⟩ := h
  refine ⟨wd.tabs, fun f c H1 eN T1 hf hc => ?_⟩
  have s0 : Stp K T S Hb H n Hb H1 n := .lam wd eN T1
  have sl0 := sl.step s0
  obtain ⟨o, e1, e2, st⟩ := sl0.ok j _ ej
  obtain ⟨g1, g2, ls, cs, m, t, g3, g4, g5, g6, g7, g8, rest⟩ := st
  have hcf : c ≠ f := fun z => by rw [z, hf] at hc; cases hc
  have fin : ∀ Hb', Stp K T S Hb H n Hb' H1 n → Hb' c = some (LamX.CodeO c F.q) → Q (.ref f) (upd H1 f (LamV F c f)) := fun Hb' s ec => by
    have s1 : Stp K T S Hb' H1 n (upd Hb' f (LamV F c f)) (upd H1 f (LamV F c f)) n := .new s.wd hf lamV_tbl
    exact q (.lam F) _ n _ _ (s.trans s1) (.lam upd_same (by rw [upd_ne hcf]; exact ec)) (h F ok)
  cases hb : Hb c with
  | some o =>
    have z := s0.wd.ex _ _ hb
    rw [hc] at z
    exact fin Hb s0 (by rw [hb, Option.some.inj z])
  | none =>
    have s1 : Stp K T S Hb H1 n (upd Hb c (LamX.CodeO c F.q)) H1 n := .code s0.wd hc hb (fun z => by
      rw [g6] at z
      exact codeO_no (o := .dK _) (fun _ z => by cases z) (Option.some.inj z)) (fun z => by
      rw [g7] at z
      exact codeO_no (o := .lst _) (fun _ z => by cases z) (Option.some.inj z))
    exact fin _ (s0.trans s1) upd_same
/-- e(e2), e a def or such a lambda -/
def tCallEU (P : Program) (w : PySem.World) (K : PySem.W.Frag) (mg : Str → Option Value) (base : Heap) (k k2 : Nat) (tf : TE) (t : TA) : TE := fun σ H Q => tf σ H fun x H1 =>
  (∃ f sp, x = .ref f ∧ Held P w K mg base k f sp ∧ t σ H1 fun vs H2 => sp vs H2 Q (fun _ _ _ => False)) ∨
  ∃ (f c : Addr) (F : FV) (sp : Sp), x = .ref f ∧ H1 f = some (LamV F c f) ∧ LamOk P w K mg base k2 F sp ∧ t σ H1 fun vs H2 => H2 f = some (LamV F c f) ∧ H2 c = some (LamX.CodeO c F.q) ∧ ∃ v, vs = [v] ∧ sp [v] H2 Q (fun _ _ _ => False)
theorem pe_callEU {X : Cx} {fe e : Expr} {tf : TE} {pos : Pos} (hf : PE X fe tf) (hr : Room k X.A) (hr2 : Room k2 X.A) (ha : PA X [e] ta)
    (hev : eval (.Call fe [e] [] pos) X.env = (do
      let f ← eval fe X.env
      callWith pos f [] (backTo pos (starEach [e] X.env)) (backToKw pos (keywordEach [] X.env))) := by rfl)
    (he : starEach [e] X.env = (false, eval e X.env) :: starEach [] X.env := by rfl) (hpl : (backTo pos (starEach ([] : List Expr) X.env)).any (·.1) = false := by rfl) : PE X (.Call fe [e] [] pos) (tCallEU X.prog X.w X.K X.mg X.base k k2 tf ta) := by
  refine ⟨fun pins s σ H Q I h => ?_⟩
  rw [hev]
  refine wpAny_bind (thn (hf.run pins s σ H _ I h) fun u s1 ⟨x, H1, I1, r1, q⟩ => ?_)
  rcases q with ⟨f, sp, ex, hd, q⟩ | ⟨f, c, F, sp, ex, hfl, ok, q⟩
  · subst ex
    obtain rfl : u = Value.ref f := r1
    obtain ⟨fd, ps, F, hk, hb⟩ := hd.ex
    refine PySem.W.callWith_K (h₀ := X.base) I1.ok.mod.kin hk (thn (ha.run pos pins s1 σ _ _ I1 q) fun us s2 ⟨vs, H2, I2, r, q2⟩ => ⟨I2.kIn, ?_⟩) he hpl
    exact run_fn (dvs := []) F hr hb .nil (fun _ _ _ _ _ _ _ z => z.elim) I2 r (by rw [List.append_nil]; exact q2)
  · subst ex
    obtain rfl : u = Value.ref f := r1
    obtain ⟨pm, ctv, hget⟩ := lamV_fun I1.hok hfl
    refine PySem.W.callWith_F ⟨_, _, _, _, hget⟩ ?_ he hpl
    refine thn (ha.run pos pins s1 σ _ _ I1 q) fun us s2 ⟨vs, H2, I2, r2, hf2, hc2, v, ev, hsp⟩ => ?_
    subst ev
    obtain ⟨pm2, ctv2, hget2⟩ := lamV_fun I2.hok hf2
    refine ⟨⟨_, _, _, _, hget2⟩, ?_⟩
    cases r2 with
    | cons ru rr =>
      cases rr
      refine wpAny_call (codeAny_mono (ok X.A X.stack s2 H2 f c v _ Q (fun _ _ _ => False) hr2 hf2 hc2 hsp ru I2.env0) fun r s' hq => ?_)
      cases r with
      | error e =>
        obtain ⟨_, _, _, _, _, _, _, _, _, _, _, _, hE⟩ := hq
        exact hE.elim
      | ok fl =>
        cases fl with
        | ret u => exact I2.after hq
        | next => exact False.elim hq
        | brk => exact False.elim hq
        | cont => exact False.elim hq
theorem Args.oneD' {ss : List V} {d : D} (h : Args K S Hb H n [.d d] ss) : ∃ v, ss = [v] ∧ Dn K Hb v d := by
  cases h with
  | cons h1 h2 =>
    cases h2
    obtain ⟨_, e, hv⟩ := h1
    cases e
    exact ⟨_, rfl, hv⟩
def xCallEU (HD : HldP) (LD : LamP) (FF : DT) (GA : DTA) : DT := fun ρ n P XP => FF ρ n (fun d n1 => match d with
  | .fnv f => ∃ DS, HD f DS ∧ GA ρ n1 (fun ss n2 => noOl ss = true ∧ DS ss n2 P) XP
  | .lam F => ∃ G, LD F G ∧ GA ρ n1 (fun ss n2 => ∃ d, ss = [.d d] ∧ G d n2 P xF) XP
  | _ => False) XP
theorem rd_callEU {tf : TE} {FF : DT} (h1 : DL.Rd K T S E tf FF) (h2 : RdA K T S E ta GA) : DL.Rd K T S E (tCallEU P w K mg base k k2 tf ta) (xCallEU (HeldD P w K mg base T k) (LamOkD P w K mg base T k2) FF GA) := fun σ ρ Hb H n P' XP Q wd sl h q x =>
  h1 σ ρ Hb H n _ XP _ wd sl h (fun d v n1 Hb1 H1 s hd p => by
    cases hd with
    | fnv f =>
      obtain ⟨DS, hD, p⟩ := p
      refine .inl ⟨f, _, rfl, hD, ?_⟩
      exact h2 σ ρ Hb1 H1 n1 _ XP _ s.wd (sl.step s) p (fun ss vs n2 Hb2 H2 s2 ha p2 => ⟨S, Hb2, n2, ss, P', xF, s2.wd, ha, p2, (q.step s).step s2, .none⟩) (x.step s)
    | @lam f c F e1 e2 =>
      obtain ⟨G, ok, p⟩ := p
      refine .inr ⟨f, c, F, _, rfl, s.wd.ex _ _ e1, ok, ?_⟩
      refine h2 σ ρ Hb1 H1 n1 _ XP _ s.wd (sl.step s) p (fun ss vs n2 Hb2 H2 s2 ha p2 => ?_) (x.step s)
      obtain ⟨d, rfl, p2⟩ := p2
      obtain ⟨v, rfl, hv⟩ := ha.oneD'
      exact ⟨s2.wd.ex _ _ (s2.ex _ _ e1), s2.wd.ex _ _ (s2.ex _ _ e2), v, rfl, S, Hb2, n2, [.d d], P', xF, s2.wd, .cons ⟨v, rfl, hv⟩ .nil, ⟨d, rfl, p2⟩, (q.step s).step s2, .none⟩
    | _ => exact p.elim) x
end
end DL

/-! a walk over a list or a tuple -/
namespace RZ
open PySem PySem.Spec PyProof.Rows L2
theorem pi_seq {X : Cx} {tg l : Expr} {tl : TE} (hl : PE X l tl) : PI X tg l (DL.iSeq X.K tl) := by
  refine ⟨fun pins s σ H R I h => ?_⟩
  refine thn (hl.run pins s σ H _ I h) fun v s1 ⟨x, H1, I1, r1, q1⟩ => ?_
  obtain ⟨a, e, ⟨⟨xs, hq⟩, q⟩ | ⟨⟨xs, hq⟩, q⟩⟩ := q1
  · subst e
    cases r1
    obtain ⟨its, rv, p, hz⟩ := I1.list hq
    refine wpAny_pyIter_list p.isList ?_
    refine ⟨s1.heap.objs.size, [s1.heap.objs.size], _, _, H1, rfl, I1.kept (t' := s1.toks) fun b o e => Heap.get?_push_of_some _ e, turn_list a _, ⟨_, Heap.get?_push_size _ rfl, rfl, rfl⟩, fun b hb => ?_, q⟩
    have e : b = s1.heap.objs.size := by simpa using hb
    subst e
    exact I1.fpOk (Nat.le_refl _) (I1.hok.fresh (Nat.le_refl _))
  · subst e
    cases r1
    obtain ⟨its, rv, p, hz⟩ := I1.tuple hq
    refine wpAny_pyIter_tuple (show s1.heap.IsTuple a its.toArray from p) ?_
    refine ⟨s1.heap.objs.size, [s1.heap.objs.size], _, _, H1, rfl, I1.kept (t' := s1.toks) fun b o e => Heap.get?_push_of_some _ e, turn_tuple a _, ⟨_, Heap.get?_push_size _ rfl, rfl, rfl⟩, fun b hb => ?_, q⟩
    have e : b = s1.heap.objs.size := by simpa using hb
    subst e
    exact I1.fpOk (Nat.le_refl _) (I1.hok.fresh (Nat.le_refl _))
end RZ
namespace DL
open L2 PySem PySem.Spec PyProof.Rows
open Evl (Ex ex_l ex_t sz_of)
section
variable {K : PySem.W.Frag} {T : Tb} {S : SA} {E : XK}
theorem rdi_seq {te : TE} {FE : DT} (h1 : DL.Rd K T S E te FE) : RdI K T S E (iSeq K te) (xiSeq FE) := fun σ ρ Hb H n P XP R w sl h q x =>
  h1 σ ρ Hb H n _ XP _ w sl h (fun d v n1 Hb1 H1 s hd p => by
    cases hd with
    | @lst a xs ds g1 g2 => exact ⟨a, rfl, .inl ⟨⟨xs, ex_l s.wd.ex g1⟩, q ds n1 Hb1 H1 _ s (src_list g1 g2) p⟩⟩
    | @tup a xs ds g1 g2 => exact ⟨a, rfl, .inr ⟨⟨xs, ex_t s.wd.ex g1⟩, q ds n1 Hb1 H1 _ s (src_tup g1 g2) p⟩⟩
    | _ => exact p.elim) x
end
end DL

/-! a key in a dict, not in a dict, the dict as data -/
namespace DL
open L2 PySem PySem.Spec PyProof.Rows
open Evl (Ex ex_l ex_t sz_of)
section
variable {K : PySem.W.Frag} {T : Tb} {S : SA} {E : XK} {te te2 : TE} {FE F2 : DT}
def xtKey (f : Bool → Bool) (FE F2 : DT) : DTT := fun ρ n P XP => FE ρ n (fun d n1 => F2 ρ n1 (fun e n2 => ∃ k ks ds, keyD d = some k ∧ e = .dic ks ds ∧ P (f (keyIn k ks)) n2) XP) XP
theorem rdt_notInK (h1 : DL.Rd K T S E te FE) (h2 : DL.Rd K T S E te2 F2) : RdT K T S E (tB (tDNotIn te te2)) (xtKey not FE F2) := fun σ ρ Hb H n P XP Q w sl h q x => by
  refine h1 σ ρ Hb H n _ XP _ w sl h (fun d v n1 Hb1 H1 s1 hd pp => ?_) x
  refine h2 σ ρ Hb1 H1 n1 _ XP _ s1.wd (sl.step s1) pp (fun e u n2 Hb2 H2 s2 he pp => ?_) (x.step s1)
  obtain ⟨k, ks, ds, ek, rfl, pp⟩ := pp
  cases he with
  | @dic a kvs ks ds g1 g2 g3 =>
    refine ⟨a, valV kvs k, rfl, .inl ⟨kvs, k, .inl (s2.wd.ex _ _ g1), key_rel (hd.up s2.ex) ek, rfl⟩, !(valV kvs k).isSome, rfl, ?_⟩
    rw [val_some, g2]
    exact q _ _ _ _ (s1.trans s2) pp
end
end DL

/-! all choices of k items, in order, and how one follows the other -/
namespace DL
/-- all lists of k items of a list, in their order -/
def combsL {α : Type} : Nat → List α → List (List α)
  | 0, _ => [[]]
  | _ + 1, [] => []
  | k + 1, x :: xs => (combsL k xs).map (x :: ·) ++ combsL (k + 1) xs
theorem combsL_map {α β : Type} (f : α → β) : ∀ (k : Nat) (xs : List α), combsL k (xs.map f) = (combsL k xs).map (List.map f)
  | 0, _ => by simp [combsL]
  | _ + 1, [] => by simp [combsL]
  | k + 1, x :: xs => by
    rw [List.map_cons, combsL, combsL, combsL_map f k xs, combsL_map f (k + 1) xs, List.map_append, List.map_map, List.map_map]
    rfl
theorem combsL_len {α : Type} : ∀ {k : Nat} {xs c : List α}, c ∈ combsL k xs → c.length = k
  | 0, xs, c, h => by
    simp [combsL] at h
    rw [h]
    rfl
  | _ + 1, [], c, h => by simp [combsL] at h
  | k + 1, x :: xs, c, h => by
    rw [combsL, List.mem_append] at h
    rcases h with h | h
    · obtain ⟨d, hd, rfl⟩ := List.mem_map.mp h
      rw [List.length_cons, combsL_len hd]
    · exact combsL_len h
theorem combsL_sub {α : Type} : ∀ {k : Nat} {xs c : List α}, c ∈ combsL k xs → c.Sublist xs
  | 0, xs, c, h => by
    simp [combsL] at h
    rw [h]
    exact List.nil_sublist _
  | _ + 1, [], c, h => by simp [combsL] at h
  | k + 1, x :: xs, c, h => by
    rw [combsL, List.mem_append] at h
    rcases h with h | h
    · obtain ⟨d, hd, rfl⟩ := List.mem_map.mp h
      exact (combsL_sub hd).cons_cons x
    · exact (combsL_sub h).cons x
/-- a choice behind another one -/
def nextC (n : Nat) : List Nat → Option (List Nat)
  | [] => none
  | i :: is => match nextC n is with
    | some js => some (i :: js)
    | none => if i ≠ n - (is.length + 1) then some (List.range' (i + 1) (is.length + 1)) else none
theorem combs_range : ∀ (t m r : Nat), (∀ (k : Nat) (is : List Nat), (combsL r (List.range' m t))[k]? = some is → (∀ i ∈ is, m ≤ i ∧ i < m + t) ∧ r ≤ t ∧ (combsL r (List.range' m t))[k + 1]? = nextC (m + t) is) ∧
    (combsL r (List.range' m t))[0]? = if r ≤ t then some (List.range' m r) else none
  | t, m, 0 => by
    refine ⟨fun k is h => ?_, by simp [combsL]⟩
    rw [combsL] at h ⊢
    cases k with
    | zero =>
      simp at h
      subst h
      exact ⟨by simp, Nat.zero_le _, rfl⟩
    | succ k => simp at h
  | 0, m, r + 1 => by simp [combsL]
  | t + 1, m, r + 1 => by
    obtain ⟨a1, a0⟩ := combs_range t (m + 1) r
    obtain ⟨b1, b0⟩ := combs_range t (m + 1) (r + 1)
    have e : combsL (r + 1) (List.range' m (t + 1)) = (combsL r (List.range' (m + 1) t)).map (m :: ·) ++ combsL (r + 1) (List.range' (m + 1) t) := by
      rw [List.range'_succ, combsL]
    generalize combsL (r + 1) (List.range' m (t + 1)) = L at e ⊢
    subst e
    have al : ∀ c ∈ combsL r (List.range' (m + 1) t), c.length = r := fun c hc => combsL_len hc
    generalize combsL r (List.range' (m + 1) t) = A at a1 a0 al ⊢
    generalize combsL (r + 1) (List.range' (m + 1) t) = B at b1 b0 ⊢
    have emt : m + 1 + t = m + (t + 1) := by omega
    rw [emt] at a1 b1
    refine ⟨fun k is h => ?_, ?_⟩
    · rcases Nat.lt_or_ge k A.length with hk | hk
      · rw [List.getElem?_append_left (by rw [List.length_map]; exact hk), List.getElem?_map] at h
        obtain ⟨js, hj, rfl⟩ := Option.map_eq_some_iff.mp h
        obtain ⟨c1, c2, c3⟩ := a1 k js hj
        have hl : A[k]? = some js := hj
        refine ⟨fun i hi => ?_, by omega, ?_⟩
        · rcases List.mem_cons.mp hi with rfl | hi
          · omega
          · have := c1 i hi
            omega
        · rw [nextC]
          cases hn : nextC (m + (t + 1)) js with
          | some js' =>
            rw [hn] at c3
            have := (List.getElem?_eq_some_iff.mp c3).1
            rw [List.getElem?_append_left (by rw [List.length_map]; exact this), List.getElem?_map, c3]
            rfl
          | none =>
            rw [hn] at c3
            have hk1 := List.getElem?_eq_none_iff.mp c3
            have ek : k + 1 = A.length := by omega
            rw [List.getElem?_append_right (by rw [List.length_map]; omega), List.length_map, ek, Nat.sub_self, b0]
            have hr := al js (List.mem_of_getElem? hj)
            rw [hr]
            by_cases h1 : r + 1 ≤ t
            · rw [if_pos h1]
              show _ = if m ≠ m + (t + 1) - (r + 1) then _ else _
              rw [if_pos (by omega)]
            · rw [if_neg h1]
              show _ = if m ≠ m + (t + 1) - (r + 1) then _ else _
              rw [if_neg (by omega)]
      · rw [List.getElem?_append_right (by rw [List.length_map]; exact hk), List.length_map] at h
        obtain ⟨c1, c2, c3⟩ := b1 _ is h
        refine ⟨fun i hi => by have := c1 i hi; omega, by omega, ?_⟩
        rw [List.getElem?_append_right (by rw [List.length_map]; omega), List.length_map, ← c3]
        congr 1
        omega
    · by_cases h : r ≤ t
      · rw [if_pos h] at a0
        have := (List.getElem?_eq_some_iff.mp a0).1
        rw [List.getElem?_append_left (by rw [List.length_map]; exact this), List.getElem?_map, a0, if_pos (by omega), List.range'_succ]
        rfl
      · rw [if_neg h] at a0
        have := List.getElem?_eq_none_iff.mp a0
        rw [List.getElem?_append_right (by rw [List.length_map]; omega), List.length_map, show 0 - A.length = 0 by omega, b0, if_neg (by omega), if_neg (by omega)]
theorem combs_next {n r k : Nat} {is : List Nat} (h : (combsL r (List.range n))[k]? = some is) : (∀ i ∈ is, i < n) ∧ is.length = r ∧ r ≤ n ∧ (combsL r (List.range n))[k + 1]? = nextC n is := by
  have l := combsL_len (List.mem_of_getElem? h)
  rw [List.range_eq_range'] at h ⊢
  have z := (combs_range n 0 r).1 k is h
  rw [Nat.zero_add] at z
  exact ⟨fun i hi => (z.1 i hi).2, l, z.2.1, z.2.2⟩
theorem combs_first (n r : Nat) : (combsL r (List.range n))[0]? = if r ≤ n then some (List.range r) else none := by
  rw [List.range_eq_range', List.range_eq_range']
  exact (combs_range n 0 r).2
/-- the step of the model's own -/
def nextM (n : Nat) (indices : List Nat) : Option (List Nat) := match List.find? (fun i => indices.getD i 0 != i + n - indices.length) (List.range indices.length).reverse with
  | none => none
  | some i => some (List.take i indices ++ List.map (fun x => indices.getD i 0 + 1 + x) (List.range (indices.length - i)))
theorem find_succ {p : Nat → Bool} (r : Nat) : List.find? p (List.range (r + 1)).reverse = match List.find? (fun i => p (i + 1)) (List.range r).reverse with
    | some j => some (j + 1)
    | none => if p 0 = true then some 0 else none := by
  rw [List.range_succ_eq_map, List.reverse_cons, List.find?_append, ← List.map_reverse, List.find?_map]
  show (Option.map Nat.succ (List.find? (fun i => p (i + 1)) _)).or _ = _
  cases List.find? (fun i => p (i + 1)) (List.range r).reverse with
  | some j => rfl
  | none =>
    show List.find? p [0] = _
    cases h : p 0 <;> simp [h]
theorem nextM_eq {n : Nat} : ∀ is : List Nat, nextM n is = nextC n is
  | [] => rfl
  | i :: is => by
    have ih := nextM_eq (n := n) is
    unfold nextM at ih ⊢
    rw [List.length_cons, find_succ]
    have e : (fun j => (i :: is).getD (j + 1) 0 != j + 1 + n - (is.length + 1)) = fun j => is.getD j 0 != j + n - is.length := funext fun j => by
      rw [List.getD_cons_succ, show j + 1 + n - (is.length + 1) = j + n - is.length by omega]
    rw [e, nextC]
    cases hf : List.find? (fun j => is.getD j 0 != j + n - is.length) (List.range is.length).reverse with
    | some j =>
      rw [hf] at ih
      rw [← ih]
      show some (List.take (j + 1) (i :: is) ++ _) = some (i :: (List.take j is ++ _))
      rw [List.take_succ_cons, List.cons_append, List.getD_cons_succ, show is.length + 1 - (j + 1) = is.length - j by omega]
    | none =>
      rw [hf] at ih
      rw [← ih]
      show (match (if ((i :: is).getD 0 0 != 0 + n - (is.length + 1)) = true then some 0 else none) with | none => none | some j => _) = _
      rw [List.getD_cons_zero, Nat.zero_add]
      by_cases h : i = n - (is.length + 1)
      · rw [if_neg (by simpa using h), if_neg (by simpa using h)]
      · rw [if_pos (by simpa using h), if_pos h]
        show some (List.take 0 (i :: is) ++ List.map (fun x => (i :: is).getD 0 0 + 1 + x) (List.range (is.length + 1 - 0))) = _
        rw [List.take_zero, List.nil_append, List.getD_cons_zero, Nat.sub_zero, List.range'_eq_map_range]
end DL

/-! combinations of any items, of any size: the object and its steps -/
namespace RZ
open PySem PySem.Spec PyProof.Rows L2
open AutoSeq1 (wpAny_loadPart')
/-- the object of combinations: its pool, its state, the choice told last, the indices -/
def cnObj (p : Addr) (st : Int) (old : Value) (is : List Nat) : Obj := { cls := .type "itertools.combinations", data := .fields ([Value.ref p, rawInt st, old] ++ is.map fun (i : Nat) => rawInt (i : Int)).toArray }
structure IsCn (h : Heap) (c p : Addr) (items : Array Value) (st : Int) (old : Value) (is : List Nat) : Prop where
  obj : h.get? c = some (cnObj p st old is)
  pool : h.get? p = some (tupObj items)
  ne : c ≠ p
theorem cn_set2 {a b c x : Value} {l : List Value} : ([a, b, c] ++ l).toArray.setIfInBounds 2 x = ([a, b, x] ++ l).toArray := by
  rw [List.setIfInBounds_toArray]
  rfl
theorem cn_set1 {a b c x : Value} {l : List Value} : ([a, b, c] ++ l).toArray.setIfInBounds 1 x = ([a, x, c] ++ l).toArray := by
  rw [List.setIfInBounds_toArray]
  rfl
theorem cn_nums {a b c : Value} {is : List Nat} {f : Value → Nat} (h : ∀ i : Nat, f (rawInt (i : Int)) = i) : List.map f (List.drop 3 ([a, b, c] ++ is.map fun (i : Nat) => rawInt (i : Int)).toArray.toList) = is := by
  show List.map f (is.map fun (i : Nat) => rawInt (i : Int)) = is
  rw [List.map_map]
  show List.map (fun i : Nat => f (rawInt (i : Int))) is = is
  simp only [h]
  exact List.map_id' _
theorem cn_cut {a b c : Value} {l m : List Value} : ([a, b, c] ++ l).toArray.extract 0 3 ++ m.toArray = ([a, b, c] ++ m).toArray := by
  simp
def picks (items : Array Value) (is : List Nat) : Array Value := (is.map fun i => items.getD i .none).toArray
/-- what a choice told leaves behind -/
theorem cn_after {h h0 : Heap} {c p : Addr} {items : Array Value} {old : Value} {is : List Nat} (o0 : Obj) (g : h.get? c = some o0) (hp : h.get? p = some (tupObj items)) (hne : c ≠ p)
    (h1 : h0.get? c = some (cnObj p 1 old is)) (hz : h0.objs.size = h.objs.size) (ho : ∀ b, b ≠ c → h0.get? b = h.get? b) (us : Array Value) (h' : Heap)
    (e : h' = (h0.push (tupObj us)).update c (Obj.mapFields fun x => x.setIfInBounds 2 (.ref h0.objs.size))) :
    IsCn h' c p items 1 (.ref h.objs.size) is ∧ h'.get? h.objs.size = some (tupObj us) ∧ (∀ b o, b ≠ c → h.get? b = some o → h'.get? b = some o) ∧ h'.objs.size = h.objs.size + 1 := by
  subst e
  have hlt : c < h.objs.size := Heap.lt_size g
  rw [hz]
  have k : ∀ b o, b ≠ c → h.get? b = some o → ((h0.push (tupObj us)).update c (Obj.mapFields fun x => x.setIfInBounds 2 (.ref h.objs.size))).get? b = some o := fun b o hb q => by
    rw [Heap.get?_update_ne _ _ _ _ hb]
    exact Heap.get?_push_of_some _ ((ho b hb).trans q)
  refine ⟨⟨?_, k p _ (Ne.symm hne) hp, hne⟩, ?_, k, ?_⟩
  · rw [Heap.get?_update_self _ (Heap.get?_push_of_some _ h1) rfl]
    show some (Obj.mapFields (fun x => x.setIfInBounds 2 (.ref h.objs.size)) (cnObj p 1 old is)) = _
    unfold Obj.mapFields cnObj
    show some ({ cls := .type "itertools.combinations", data := Data.fields (([Value.ref p, rawInt 1, old] ++ _).toArray.setIfInBounds 2 (.ref h.objs.size)) } : Obj) = _
    rw [cn_set2]
  · rw [Heap.get?_update_ne _ _ _ _ (Nat.ne_of_gt hlt), ← hz]
    exact Heap.get?_push_size _ rfl
  · rw [Heap.size_update, Heap.size_push, hz]
section
variable {prog : Program} {w : World} {A : Around} {E : Value → Shared → Prop} {s : Shared} {c p : Addr} {items : Array Value}
theorem cn_next0 {Q : Option Value → Shared → Prop} {is : List Nat} (hz : is.length ≤ sizeLine) (hb : IsCn s.heap c p items 0 .none is)
    (hQ : ∀ h', IsCn h' c p items 1 (.ref s.heap.objs.size) is → h'.get? s.heap.objs.size = some (tupObj (picks items is)) →
      (∀ b o, b ≠ c → s.heap.get? b = some o → h'.get? b = some o) → h'.objs.size = s.heap.objs.size + 1 → Q (some (.ref s.heap.objs.size)) { s with heap := h' }) :
    wpAny (model prog w) A (pyNext (.ref c)) Q E s := by
  obtain ⟨hc, hp, hne⟩ := hb
  have hT : s.TypeIs (.ref c) "itertools.combinations" := ⟨_, hc, rfl⟩
  unfold pyNext
  refine wpAny_bind (wpAny_attempt (wpAny_callSpecial?_slot (name := Str.ofString "__next__") hT Cb.slot_comb_next
      (wpAny_call_entry Cb.slot_comb_next hT Cb.entry_comb_next ?_ (Cb.args_comb_next _))))
  unfold Builtin.«itertools.combinations.__next__»
  have hc' : s.heap.get? c = some { cls := .type "itertools.combinations", data := .fields ([Value.ref p, rawInt 0, .none] ++ is.map fun (i : Nat) => rawInt (i : Int)).toArray } := hc
  have hp' : s.heap.get? p = some { cls := .type "tuple", data := .seq items } := hp
  wp_walk using wpAny_loadPart' hc', wpAny_loadPart' hp', wpAny_load' hc', wpAny_load' hp'
  refine ⟨_, rfl, wpAny_pure ?_⟩
  rw [cn_nums]
  rotate_left
  · exact fun i => by rfl
  have z := cn_after (h0 := s.heap.update c (Obj.mapFields fun x => x.setIfInBounds 1 (rawInt 1))) (old := .none) (is := is) (items := items) _ hc hp hne (by
    rw [Heap.get?_update_self _ hc rfl]
    show some ({ cls := .type "itertools.combinations", data := Data.fields (([Value.ref p, rawInt 0, Value.none] ++ _).toArray.setIfInBounds 1 (rawInt 1)) } : Obj) = _
    rw [cn_set1]
    rfl) (Heap.size_update ..) (fun b hb => Heap.get?_update_ne _ _ _ _ hb) (picks items is) _ rfl
  have zz := hQ _ z.1 z.2.1 z.2.2.1 z.2.2.2
  rw [Heap.size_update] at zz
  rw [Heap.size_update]
  exact zz
theorem cn_next1 {Q : Option Value → Shared → Prop} {old : Value} {is js : List Nat} (hz : js.length ≤ sizeLine) (hb : IsCn s.heap c p items 1 old is) (hn : DL.nextM items.size is = some js)
    (hQ : ∀ h', IsCn h' c p items 1 (.ref s.heap.objs.size) js → h'.get? s.heap.objs.size = some (tupObj (picks items js)) →
      (∀ b o, b ≠ c → s.heap.get? b = some o → h'.get? b = some o) → h'.objs.size = s.heap.objs.size + 1 → Q (some (.ref s.heap.objs.size)) { s with heap := h' }) :
    wpAny (model prog w) A (pyNext (.ref c)) Q E s := by
  obtain ⟨hc, hp, hne⟩ := hb
  have hT : s.TypeIs (.ref c) "itertools.combinations" := ⟨_, hc, rfl⟩
  unfold pyNext
  refine wpAny_bind (wpAny_attempt (wpAny_callSpecial?_slot (name := Str.ofString "__next__") hT Cb.slot_comb_next
      (wpAny_call_entry Cb.slot_comb_next hT Cb.entry_comb_next ?_ (Cb.args_comb_next _))))
  unfold Builtin.«itertools.combinations.__next__»
  have hc' : s.heap.get? c = some { cls := .type "itertools.combinations", data := .fields ([Value.ref p, rawInt 1, old] ++ is.map fun (i : Nat) => rawInt (i : Int)).toArray } := hc
  have hp' : s.heap.get? p = some { cls := .type "tuple", data := .seq items } := hp
  wp_walk using wpAny_loadPart' hc', wpAny_loadPart' hp', wpAny_load' hc', wpAny_load' hp'
  rw [cn_nums]
  rotate_left
  · exact fun i => by rfl
  split
  · rename_i next heq
    have e : next = js := by
      have q : DL.nextM items.size is = some next := heq
      rw [hn] at q
      exact (Option.some.inj q).symm
    subst e
    clear heq
    unfold Builtin.Itertools.itSetNumbersFrom
    refine wpAny_bind (wpAny_updateFields hc' rfl ?_ (by rw [cn_cut]; simp; omega))
    have g1 : (s.heap.update c (Obj.mapFields fun fs => fs.extract 0 3 ++ (List.map (fun (n : Nat) => rawInt n) next).toArray)).get? c = some { cls := .type "itertools.combinations", data := .fields ([Value.ref p, rawInt 1, old] ++ next.map fun (i : Nat) => rawInt (i : Int)).toArray } := by
      rw [Heap.get?_update_self _ hc rfl]
      show some ({ cls := .type "itertools.combinations", data := Data.fields (([Value.ref p, rawInt 1, old] ++ _).toArray.extract 0 3 ++ _) } : Obj) = _
      rw [cn_cut]
    have g3 : ∀ b, b ≠ c → (s.heap.update c (Obj.mapFields fun fs => fs.extract 0 3 ++ (List.map (fun (n : Nat) => rawInt n) next).toArray)).get? b = s.heap.get? b := fun b hb => Heap.get?_update_ne _ _ _ _ hb
    have g4 : (s.heap.update c (Obj.mapFields fun fs => fs.extract 0 3 ++ (List.map (fun (n : Nat) => rawInt n) next).toArray)).objs.size = s.heap.objs.size := Heap.size_update ..
    have g2 := (g3 p (Ne.symm hne)).trans hp'
    generalize (s.heap.update c (Obj.mapFields fun fs => fs.extract 0 3 ++ (List.map (fun (n : Nat) => rawInt n) next).toArray)) = h1 at g1 g2 g3 g4 ⊢
    wp_walk using wpAny_loadPart' g1, wpAny_loadPart' g2, wpAny_load' g1, wpAny_load' g2
    refine ⟨_, rfl, wpAny_pure ?_⟩
    have z := cn_after (h0 := h1) (old := old) (is := next) (items := items) _ hc hp hne g1 g4 g3 (picks items next) _ rfl
    have zz := hQ _ z.1 z.2.1 z.2.2.1 z.2.2.2
    rw [← g4] at zz
    exact zz
  · rename_i heq
    exfalso
    have q : DL.nextM items.size is = none := heq
    rw [hn] at q
    cases q
theorem cn_stop {Q : Option Value → Shared → Prop} {st : Int} {old : Value} {is : List Nat} (hh : A.handled = none) (hb : IsCn s.heap c p items st old is)
    (hn : st = 2 ∨ (st = 1 ∧ DL.nextM items.size is = none))
    (hQ : ∀ h', (∀ b o, b ≠ c → s.heap.get? b = some o → h'.get? b = some o) → Q none { s with heap := h' }) :
    wpAny (model prog w) A (pyNext (.ref c)) Q E s := by
  obtain ⟨hc, hp, hne⟩ := hb
  have hT : s.TypeIs (.ref c) "itertools.combinations" := ⟨_, hc, rfl⟩
  unfold pyNext
  refine wpAny_bind (wpAny_attempt (wpAny_callSpecial?_slot (name := Str.ofString "__next__") hT Cb.slot_comb_next
      (wpAny_call_entry Cb.slot_comb_next hT Cb.entry_comb_next ?_ (Cb.args_comb_next _))))
  unfold Builtin.«itertools.combinations.__next__»
  have hi : A.in1.handled = none := hh
  have hp' : s.heap.get? p = some { cls := .type "tuple", data := .seq items } := hp
  have fin : ∀ (s1 : Shared) (a : Addr) (o : Obj), (∀ b o, b ≠ c → s.heap.get? b = some o → s1.heap.get? b = some o) → s1 = { s with heap := s1.heap } → s1.heap.get? a = some o → o.cls = .type "StopIteration" →
      wpAny (model prog w) A (do if ← isInstance (.ref a) (.type "StopIteration") then pure none else throw (.ref a)) Q E s1 := fun s1 a o k z ho hcl =>
    wpAny_bind (wpAny_isInstance (T := "StopIteration") (b := true) ⟨o, ho, hcl⟩ isSubtype_stop (wpAny_pure (by rw [z]; exact hQ _ k)))
  rcases hn with rfl | ⟨rfl, hn⟩
  · have hc' : s.heap.get? c = some { cls := .type "itertools.combinations", data := .fields ([Value.ref p, rawInt 2, old] ++ is.map fun (i : Nat) => rawInt (i : Int)).toArray } := hc
    wp_walk using wpAny_loadPart' hc', wpAny_loadPart' hp', wpAny_load' hc', wpAny_load' hp', it_stop hi
    exact fun h' a o k ho hcl => fin { s with heap := h' } a o (fun b o _ q => k b o q) rfl ho hcl
  · have hc' : s.heap.get? c = some { cls := .type "itertools.combinations", data := .fields ([Value.ref p, rawInt 1, old] ++ is.map fun (i : Nat) => rawInt (i : Int)).toArray } := hc
    wp_walk using wpAny_loadPart' hc', wpAny_loadPart' hp', wpAny_load' hc', wpAny_load' hp', it_stop hi
    rw [cn_nums]
    rotate_left
    · exact fun i => by rfl
    split
    · rename_i next heq
      exfalso
      have q : DL.nextM items.size is = some next := heq
      rw [hn] at q
      cases q
    · refine wpAny_bind (wpAny_setField hc' rfl (show 1 < _ by simp) ?_)
      refine it_stop hi fun h' a o k ho hcl => ?_
      exact fin { s with heap := h' } a o (fun b o hb q => k b o ((Heap.get?_update_ne _ _ _ _ hb).trans q)) rfl ho hcl
end
end RZ

/-! combinations of a list or a tuple, of any size: the call, the walk -/
namespace RZ
open PySem PySem.Spec PyProof.Rows L2
open AutoSeq1 (wpAny_loadPart')
theorem collect_sq {prog : Program} {w : World} {A : Around} {E : Value → Shared → Prop} {s : Shared} {Q : List Value → Shared → Prop} {it : Addr} {T : String} {o : Obj} {items : Array Value} {n : Nat} (hT : T = "list" ∨ T = "tuple") (ho : s.heap.get? it = some o) (hc : o.cls = .type T) (hd : o.data = .seq items n) (hz : items.size ≤ sizeLine)
    (hQ : ∀ h' : Heap, (∀ b o', s.heap.get? b = some o' → h'.get? b = some o') → s.heap.objs.size ≤ h'.objs.size → Q items.toList { s with heap := h' }) : wpAny (model prog w) A (collect (.ref it)) Q E s := SCo.gathered it hT ho hc hd hz hQ
theorem meets_combN (prog : Program) (w : World) (a : Addr) (r : Int) (k : Tok) (T : String) (o : Obj) (items : Array Value) (n : Nat) :
    MeetsIn prog w (Builtin.«itertools.combinations.__new__» ⟨[.type "itertools.combinations", .ref a, .int r k], []⟩) (fun A R s => (T = "list" ∨ T = "tuple") ∧ s.heap.get? a = some o ∧ o.cls = .type T ∧ o.data = .seq items n ∧ items.size ≤ sizeLine ∧ 0 ≤ r ∧ r ≤ 1000 ∧
      ∀ (h' : Heap), (∀ b o, s.heap.get? b = some o → h'.get? b = some o) → s.heap.objs.size ≤ h'.objs.size →
        R (.ok (.ret (.ref (h'.push (tupObj items)).objs.size))) { s with heap := (h'.push (tupObj items)).push (cnObj h'.objs.size (if r.toNat > items.size then 2 else 0) .none (List.range r.toNat)) }) :=
  .of_wp fun A R s h => by
    obtain ⟨hT, ho, hcl, hd, hz, r0, r1, h⟩ := h
    have hsub : isSubtype (.type "itertools.combinations") (.type ("itertools." ++ "combinations")) = pure true := Cb.sub_comb
    have b1 : (decide (r < -2 ^ 63) || decide (r ≥ 2 ^ 63)) = false := by
      rw [decide_eq_false (by omega), decide_eq_false (by omega)]
      rfl
    have b2 : ¬ r < 0 := by omega
    have b3 : Builtin.Itertools.itTooMany r = false := decide_eq_false (by omega)
    unfold Builtin.«itertools.combinations.__new__»
    wp_walk
    rw [if_neg (by rw [b1]; decide)]
    wp_walk using collect_sq hT ho hcl hd hz
    intro h' hk hs
    rw [if_neg b2]
    wp_walk
    have b4 : 1003 ≤ sizeLine := by decide
    rw [if_neg (by simp; omega)]
    unfold newObjAsIs
    wp_walk
    exact ⟨_, rfl, h h' hk hs⟩
open DL (combsL nextC nextM nextM_eq combs_next combs_first)
def IteN (xs : List V) (r : Nat) : It :=
  ⟨fun i _ => i < (combsL r (List.range xs.length)).length, fun i H v H' => ∃ T is, v = .ref T ∧ H T = none ∧ H' = upd H T (.tup (is.map fun j => xs.getD j .non)) ∧ (combsL r (List.range xs.length))[i]? = some is,
   fun i _ => (combsL r (List.range xs.length)).length ≤ i⟩
/-- where combinations stands at the i-th turn -/
def CnTn (xs : List V) (r : Nat) (c p : Addr) (i : Nat) (h : Heap) : Prop := ∃ items st old is, IsCn h c p items st old is ∧ Vals xs items.toList ∧
  ((i = 0 ∧ r ≤ xs.length ∧ st = 0 ∧ old = .none ∧ is = List.range r) ∨ (xs.length < r ∧ st = 2) ∨ ∃ k, i = k + 1 ∧ st = 1 ∧ (combsL r (List.range xs.length))[k]? = some is)
theorem cn_item {xs : List V} {items : Array Value} (h : Vals xs items.toList) {j : Nat} (hj : j < xs.length) : RelV (xs.getD j .non) (items.getD j .none) := by
  obtain ⟨u, e, r⟩ := h.get (List.getElem?_eq_getElem hj)
  have e2 : items.getD j .none = u := by
    rw [Array.getD_eq_getD_getElem?, ← Array.getElem?_toList, e]
    rfl
  rw [e2, List.getD_eq_getElem?_getD, List.getElem?_eq_getElem hj]
  exact r
theorem cn_items {xs : List V} {items : Array Value} (h : Vals xs items.toList) : ∀ {is : List Nat}, (∀ j ∈ is, j < xs.length) → Vals (is.map fun j => xs.getD j .non) (is.map fun j => items.getD j .none)
  | [], _ => .nil
  | j :: is, hj => .cons (cn_item h (hj j (List.mem_cons_self ..))) (cn_items h fun k hk => hj k (List.mem_cons_of_mem _ hk))
theorem cn_size {xs : List V} {items : Array Value} (h : Vals xs items.toList) : items.size = xs.length := by
  rw [← Array.length_toList]
  exact h.length.symm
theorem turn_combN {P : Program} {w : World} {K : PySem.W.Frag} {tg : Expr} (xs : List V) (r : Nat) (hr : r ≤ 1000) (c p : Addr) (hne : c ≠ p) : Turn P w K tg (IteN xs r) [c, p] c (CnTn xs r c p) where
  mem := by simp
  obj := fun i h st b hb => by
    obtain ⟨items, st, old, is, hb1, _⟩ := st
    rcases List.mem_cons.mp hb with z | hb
    · rw [z]; exact ⟨_, hb1.obj, fun v q => nomatch q⟩
    · rw [List.mem_singleton.mp hb]; exact ⟨_, hb1.pool, fun v q => nomatch q⟩
  keep := fun i h h' st k => let ⟨items, st, old, is, hb1, r⟩ := st; ⟨items, st, old, is, ⟨k c (by simp) _ hb1.obj, k p (by simp) _ hb1.pool, hb1.ne⟩, r⟩
  item := by
    intro X hP hw hK hc i pins s σ H E I hf st hg
    subst hP hw hK
    obtain ⟨items, st, old, is0, hb, hit, q⟩ := st
    have hcl : c < s.heap.objs.size := Heap.lt_size hb.obj
    have hpl : p < s.heap.objs.size := Heap.lt_size hb.pool
    obtain ⟨is, his⟩ : ∃ q, (combsL r (List.range xs.length))[i]? = some q := ⟨_, List.getElem?_eq_getElem hg⟩
    obtain ⟨hin, hln, hrn, _⟩ := combs_next his
    have b4 : 1003 ≤ sizeLine := by decide
    have hz : is.length ≤ sizeLine := by omega
    have fin : ∀ h', IsCn h' c p items 1 (.ref s.heap.objs.size) is → h'.get? s.heap.objs.size = some (tupObj (picks items is)) →
        (∀ b o, b ≠ c → s.heap.get? b = some o → h'.get? b = some o) → h'.objs.size = s.heap.objs.size + 1 →
        ∃ u, some (Value.ref s.heap.objs.size) = some u ∧ wpAny (model X.prog X.w) X.A (letOwnedTupleGo tg (.ref c) u) (fun _ s2 => ∃ x H', Inv X pins σ H' s2 ∧ RelV x u ∧ (IteN xs r).yld i H x H' ∧ CnTn xs r c p (i + 1) s2.heap ∧ ∀ b ∈ [c, p], H' b = none) E { s with heap := h' } := fun h' hb' hT hk hsz => by
      refine ⟨_, rfl, go_of (n := "itertools.combinations") hb'.obj rfl rfl (by decide) ?_⟩
      have new : ObjOk X.prog X.w (upd H s.heap.objs.size (.tup (is.map fun j => xs.getD j .non))) h' s.heap.objs.size (.tup (is.map fun j => xs.getD j .non)) :=
        ⟨by rw [List.length_map]; exact hz, _, cn_items hit hin, ⟨_, hT, rfl, _, rfl⟩⟩
      have I1 : Inv X pins σ (upd H s.heap.objs.size (.tup (is.map fun j => xs.getD j .non))) { s with heap := h' } :=
        I.turnedNew (ch := [c, p]) (fun b ob hb q => hk b ob (fun z => hb (by simp [z])) q) hf (Nat.le_refl _) new
      refine ⟨.ref s.heap.objs.size, _, I1, rfl, ⟨_, is, rfl, I.hok.fresh (Nat.le_refl _), rfl, his⟩, ⟨items, 1, _, is, hb', hit, .inr (.inr ⟨i, rfl, rfl, his⟩)⟩, fun d hd => ?_⟩
      have hd' : d < s.heap.objs.size := by
        rcases List.mem_cons.mp hd with z | hd
        · rw [z]; exact hcl
        · rw [List.mem_singleton.mp hd]; exact hpl
      rw [upd_ne (Nat.ne_of_lt hd')]
      exact (hf d hd).1
    rcases q with ⟨rfl, h2, rfl, rfl, rfl⟩ | ⟨h2, _⟩ | ⟨k, rfl, rfl, hk⟩
    · rw [combs_first, if_pos h2] at his
      cases his
      exact cn_next0 hz hb fin
    · omega
    · obtain ⟨p1, p2, p3, p4⟩ := combs_next hk
      rw [p4] at his
      exact cn_next1 hz hb (by rw [cn_size hit, nextM_eq]; exact his) fin
  done := by
    intro X hP hw hK hc i pins s σ H E I hf st hg
    subst hP hw hK
    obtain ⟨items, st, old, is0, hb, hit, q⟩ := st
    obtain ⟨f0, f1, f2, f3, f4, f5⟩ := hf c (by simp)
    have hno : (combsL r (List.range xs.length))[i]? = none := List.getElem?_eq_none hg
    refine cn_stop (I.ok.hd hc) hb ?_ fun h' k => ⟨rfl, I.turned (t' := s.toks) (fun b o hb q => k b o hb q) f0 f1 f3 f4 f5⟩
    rcases q with ⟨rfl, h2, _⟩ | ⟨_, h2⟩ | ⟨k, rfl, rfl, hk⟩
    · rw [combs_first, if_pos h2] at hno
      cases hno
    · exact .inl h2
    · obtain ⟨p1, p2, p3, p4⟩ := combs_next hk
      rw [p4] at hno
      exact .inr ⟨rfl, by rw [cn_size hit, nextM_eq]; exact hno⟩
  self := fun A i s Q E st h => by
    obtain ⟨items, st, old, is, hb, hit, q⟩ := st
    have hT : s.TypeIs (.ref c) "itertools.combinations" := ⟨_, hb.obj, rfl⟩
    refine wpAny_pyIter_slot hT Cb.slot_comb_iter (wpAny_call_entry Cb.slot_comb_iter hT Cb.entry_comb_iter ?_ (Cb.args_comb_iter _))
    show wpAny _ _ (ret (.ref c)) _ _ s
    exact wpAny_pure ⟨_, rfl, "itertools.combinations", _, hT, Cb.slot_comb_next.lookup, h⟩
def iCombN (K : PySem.W.Frag) (ta : TA) : TI := fun σ H R => ta σ H fun vs H1 => ∃ (a : Addr) (xs : List V) (r : Int), vs = [.ref a, .int r] ∧ (SqL K H1 a xs ∨ SqT K H1 a xs) ∧ 0 ≤ r ∧ r ≤ 1000 ∧ R (IteN xs r.toNat) H1
theorem pi_combN {X : Cx} {tg e e2 : Expr} {ta : TA} {p pos : Pos} (hgc : Gl X "combinations") (hmc : X.mg "combinations" = some (.type "itertools.combinations")) (ha : PA X [e, e2] ta) (hc : X.calm = true := by rfl)
    (hs : starEach [e, e2] X.env = (false, eval e X.env) :: starEach [e2] X.env := by rfl) (hpl : (backTo pos (starEach [e2] X.env)).any (·.1) = false := by rfl) :
    PI X tg (.Call (.Name "combinations" p) [e, e2] [] pos) (iCombN X.K ta) := by
  refine ⟨fun pins s σ H R I h => ?_⟩
  refine Call_ (ld_glob I hgc hmc (PyProof.Rows.callWith_type1 (thn (ha.run pos pins s σ H _ I h) fun us s1 ⟨vs, H1, I1, r1, q1⟩ => ?_) hs hpl))
  obtain ⟨a, xs, j, ex, hq, b1, b2, q⟩ := q1
  subst ex
  cases r1 with
  | cons r rr =>
    cases rr with
    | cons r' rr =>
      cases rr
      cases r
      obtain ⟨t, rfl⟩ := r'
      obtain ⟨T, o, its, n, hT, ho, hcl, hd, hz, rv⟩ : ∃ (T : String) (o : Obj) (its : List Value) (n : Nat), (T = "list" ∨ T = "tuple") ∧ s1.heap.get? a = some o ∧ o.cls = .type T ∧ o.data = .seq its.toArray n ∧ its.length ≤ sizeLine ∧ Vals xs its := by
        rcases hq with hq | hq
        · obtain ⟨its, rv, p, hz⟩ := I1.list hq
          obtain ⟨o, g1, g2, n, g3⟩ := p.isList
          exact ⟨"list", o, its, n, .inl rfl, g1, g2, g3, by rw [← rv.length]; exact hz, rv⟩
        · obtain ⟨its, rv, p, hz⟩ := I1.tuple hq
          obtain ⟨o, g1, g2, n, g3⟩ := p
          exact ⟨"tuple", o, its, n, .inr rfl, g1, g2, g3, by rw [← rv.length]; exact hz, rv⟩
      refine callType_newIn Cb.called_comb (by decide) (Cb.typeCall_comb _ _) (Cb.newCall_comb _ _) (fun obj => F.args_object_init_3 obj _ _) Cb.entry_comb_new
        (meets_combN X.prog X.w a j t T o its.toArray n)
        ⟨hT, ho, hcl, hd, by simpa using hz, b1, b2, fun h' hk hsz => ?_⟩
      have hz : (h'.push (tupObj its.toArray)).objs.size = h'.objs.size + 1 := Heap.size_push ..
      have I2 : Inv X pins σ H1 { s1 with heap := (h'.push (tupObj its.toArray)).push (cnObj h'.objs.size (if j.toNat > its.toArray.size then 2 else 0) .none (List.range j.toNat)) } :=
        I1.kept (t' := s1.toks) fun b o q => Heap.get?_push_of_some _ (Heap.get?_push_of_some _ (hk b o q))
      have hcn : IsCn ((h'.push (tupObj its.toArray)).push (cnObj h'.objs.size (if j.toNat > its.toArray.size then 2 else 0) .none (List.range j.toNat))) (h'.push (tupObj its.toArray)).objs.size h'.objs.size its.toArray (if j.toNat > its.toArray.size then 2 else 0) .none (List.range j.toNat) :=
        ⟨Heap.get?_push_size _ rfl, Heap.get?_push_of_some _ (Heap.get?_push_size _ rfl), by rw [hz]; exact Nat.succ_ne_self _⟩
      refine ⟨⟨_, hcn.obj, rfl⟩, ?_⟩
      have hx : its.toArray.size = xs.length := by rw [List.size_toArray, rv.length]
      have tn0 : CnTn xs j.toNat (h'.push (tupObj its.toArray)).objs.size h'.objs.size 0 ((h'.push (tupObj its.toArray)).push (cnObj h'.objs.size (if j.toNat > its.toArray.size then 2 else 0) .none (List.range j.toNat))) := by
        refine ⟨its.toArray, _, .none, _, hcn, rv, ?_⟩
        by_cases h2 : j.toNat ≤ xs.length
        · exact .inl ⟨rfl, h2, by rw [if_neg (by omega)], rfl, rfl⟩
        · exact .inr (.inl ⟨by omega, by rw [if_pos (by omega)]⟩)
      refine (turn_combN (K := X.K) (tg := tg) xs j.toNat (by omega) _ _ hcn.ne).self _ 0 _ _ _ tn0 ?_
      refine ⟨_, _, _, _, H1, rfl, I2, turn_combN xs j.toNat (by omega) _ _ hcn.ne, tn0, fun b hb => ?_, q⟩
      have hle : s1.heap.objs.size ≤ b := by
        rcases List.mem_cons.mp hb with z | hb
        · rw [z]; omega
        · rw [List.mem_singleton.mp hb]; exact hsz
      exact I1.fpOk hle (I1.hok.fresh hle)
end RZ
namespace DL
open L2 PySem PySem.Spec PyProof.Rows
open Evl (Ex ex_l ex_t sz_of)
theorem range_getD {α : Type} {z : α} : ∀ xs : List α, (List.range xs.length).map (fun j => xs.getD j z) = xs := fun xs => by
  apply List.ext_getElem?
  intro i
  rw [List.getElem?_map]
  rcases Nat.lt_or_ge i xs.length with h | h
  · rw [List.getElem?_range h, List.getElem?_eq_getElem h]
    show some (xs.getD i z) = _
    rw [List.getD_eq_getElem?_getD, List.getElem?_eq_getElem h]
    rfl
  · rw [List.getElem?_eq_none (by rw [List.length_range]; exact h), List.getElem?_eq_none h]
    rfl
theorem combs_at {α : Type} {z : α} {xs : List α} {r : Nat} : combsL r xs = (combsL r (List.range xs.length)).map fun is => is.map fun j => xs.getD j z := by
  have e := combsL_map (fun j => xs.getD j z) r (List.range xs.length)
  rw [range_getD] at e
  rw [e]
section
variable {K : PySem.W.Frag} {T : Tb} {S : SA} {E : XK} {Hb H Hb1 H1 : Hp} {n n1 : Nat}
theorem DnA.picks {vs : List V} {ds : List D} (h : DnA K Hb vs ds) : ∀ {is : List Nat}, (∀ j ∈ is, j < vs.length) → DnA K Hb (is.map fun j => vs.getD j .non) (is.map fun j => ds.getD j .non)
  | [], _ => .nil
  | j :: is, hj => by
    have hl := hj j (List.mem_cons_self ..)
    obtain ⟨d, e, q⟩ := h.getV (List.getElem?_eq_getElem hl)
    have e1 : vs.getD j .non = vs[j] := by rw [List.getD_eq_getElem?_getD, List.getElem?_eq_getElem hl]; rfl
    have e2 : ds.getD j .non = d := by rw [List.getD_eq_getElem?_getD, e]; rfl
    rw [List.map_cons, List.map_cons, e1, e2]
    exact .cons q (DnA.picks h fun k hk => hj k (List.mem_cons_of_mem _ hk))
def combT (r : Nat) (ds : List D) : List D := (combsL r ds).map D.tup
theorem src_combN {vs : List V} {ds : List D} {r : Nat} (h : DnA K Hb vs ds) : SrcOk K (RZ.IteN vs r) Hb (combT r ds) := fun Hb1 H1 i e1 e2 => by
  have hl := h.len
  unfold combT
  rw [combs_at (z := D.non), ← hl]
  refine ⟨fun hi => by rw [List.length_map, List.length_map] at hi; exact hi, fun d e => ?_⟩
  rw [List.getElem?_map, List.getElem?_map] at e
  obtain ⟨is0, e0, rfl⟩ := Option.map_eq_some_iff.mp e
  obtain ⟨is, ex, rfl⟩ := Option.map_eq_some_iff.mp e0
  refine ⟨(List.getElem?_eq_some_iff.mp ex).1, fun z H' q => ?_⟩
  obtain ⟨p, is', rfl, hp, rfl, f1⟩ := q
  rw [ex] at f1
  cases f1
  have ex2 := Ex.new (o := .tup (is.map fun j => vs.getD j .non)) (free_of e2 hp)
  exact .inr ⟨p, _, hp, rfl, (fun _ z => by cases z), .tup (SqT.of upd_same) (((h.up e1).picks (combs_next ex).1).up ex2)⟩
def xiCombN (G : DTA) : DTI := fun ρ n P XP => G ρ n (fun ss n1 => match ss with
  | [.d (.lst xs), .d (.int j)] => 0 ≤ j ∧ j ≤ 1000 ∧ P (combT j.toNat xs) n1
  | [.d (.tup xs), .d (.int j)] => 0 ≤ j ∧ j ≤ 1000 ∧ P (combT j.toNat xs) n1
  | _ => False) XP
theorem rdi_combN {ta : TA} {GA : DTA} (h1 : RdA K T S E ta GA) : RdI K T S E (RZ.iCombN K ta) (xiCombN GA) := fun σ ρ Hb H n P XP R w sl h q x =>
  h1 σ ρ Hb H n _ XP _ w sl h (fun ss vs n1 Hb1 H1 s ha p => by
    match ss, ha, p with
    | [.d (.lst xs), .d (.int j)], ha, p =>
      obtain ⟨v, u, rfl, hv, hu⟩ := Args.two (ss := []) ha
      cases hu
      cases hv with
      | @lst a as ds g1 g2 => exact ⟨a, as, j, rfl, .inl (ex_l s.wd.ex g1), p.1, p.2.1, q _ n1 Hb1 H1 _ s (src_combN g2) p.2.2⟩
    | [.d (.tup xs), .d (.int j)], ha, p =>
      obtain ⟨v, u, rfl, hv, hu⟩ := Args.two (ss := []) ha
      cases hu
      cases hv with
      | @tup a as ds g1 g2 => exact ⟨a, as, j, rfl, .inr (ex_t s.wd.ex g1), p.1, p.2.1, q _ n1 Hb1 H1 _ s (src_combN g2) p.2.2⟩) x
end
end DL

/-! list(combinations(..)) -/
namespace RZ
open PySem PySem.Calls PyProof.Rows PyProof.V PySem.Spec PySem.W L2
open DL (combsL nextC nextM nextM_eq combs_next combs_first)
theorem cl_no_len : typeLookup (.type "itertools.combinations") "__len__" = pure none := by rw [typeLookup_type, builtinLookup_eq_fast]; kernel_rfl
theorem cl_no_hint : typeLookup (.type "itertools.combinations") "__length_hint__" = pure none := by rw [typeLookup_type, builtinLookup_eq_fast]; kernel_rfl
/-- where combinations stands at the i-th turn, its items told -/
def CnAt (items : Array Value) (r : Nat) (c p : Addr) (i : Nat) (h : Heap) : Prop := ∃ st old is, IsCn h c p items st old is ∧
  ((i = 0 ∧ r ≤ items.size ∧ st = 0 ∧ old = .none ∧ is = List.range r) ∨ (items.size < r ∧ st = 2) ∨ ∃ k, i = k + 1 ∧ st = 1 ∧ (combsL r (List.range items.size))[k]? = some is)
section
variable {prog : Program} {w : World} {A : Around} {E : Value → Shared → Prop} {s : Shared} {c p : Addr} {items : Array Value} {r i : Nat}
theorem CnAt.there {h : Heap} (st : CnAt items r c p i h) : c < h.objs.size ∧ p < h.objs.size ∧ ∃ o, h.get? c = some o ∧ o.cls = .type "itertools.combinations" := by
  obtain ⟨st, old, is, hb, _⟩ := st
  exact ⟨Heap.lt_size hb.obj, Heap.lt_size hb.pool, _, hb.obj, rfl⟩
theorem CnAt.keep {h h' : Heap} (st : CnAt items r c p i h) (kc : ∀ o, h.get? c = some o → h'.get? c = some o) (kp : ∀ o, h.get? p = some o → h'.get? p = some o) : CnAt items r c p i h' := by
  obtain ⟨st, old, is, hb, q⟩ := st
  exact ⟨st, old, is, ⟨kc _ hb.obj, kp _ hb.pool, hb.ne⟩, q⟩
theorem cn_step {Q : Option Value → Shared → Prop} {is : List Nat} (hr : r ≤ 1000) (st : CnAt items r c p i s.heap) (hi : (combsL r (List.range items.size))[i]? = some is)
    (hQ : ∀ h', CnAt items r c p (i + 1) h' → h'.get? s.heap.objs.size = some (tupObj (picks items is)) →
      (∀ b o, b ≠ c → s.heap.get? b = some o → h'.get? b = some o) → h'.objs.size = s.heap.objs.size + 1 → Q (some (.ref s.heap.objs.size)) { s with heap := h' }) :
    wpAny (model prog w) A (pyNext (.ref c)) Q E s := by
  obtain ⟨st, old, is0, hb, q⟩ := st
  have b4 : 1003 ≤ sizeLine := by decide
  have hl := (combs_next hi).2.1
  have fin : ∀ h', IsCn h' c p items 1 (.ref s.heap.objs.size) is → h'.get? s.heap.objs.size = some (tupObj (picks items is)) →
      (∀ b o, b ≠ c → s.heap.get? b = some o → h'.get? b = some o) → h'.objs.size = s.heap.objs.size + 1 → Q (some (.ref s.heap.objs.size)) { s with heap := h' } := fun h' a => hQ h' ⟨_, _, _, a, .inr (.inr ⟨i, rfl, rfl, hi⟩)⟩
  rcases q with ⟨rfl, h2, rfl, rfl, rfl⟩ | ⟨h2, _⟩ | ⟨k, rfl, rfl, hk⟩
  · rw [combs_first, if_pos h2] at hi
    cases hi
    exact cn_next0 (by omega) hb fin
  · have := (combs_next hi).2.2.1
    omega
  · rw [(combs_next hk).2.2.2] at hi
    exact cn_next1 (by omega) hb (by rw [nextM_eq]; exact hi) fin
theorem cn_end {Q : Option Value → Shared → Prop} (hh : A.handled = none) (st : CnAt items r c p i s.heap) (hi : (combsL r (List.range items.size))[i]? = none)
    (hQ : ∀ h', (∀ b o, b ≠ c → s.heap.get? b = some o → h'.get? b = some o) → Q none { s with heap := h' }) :
    wpAny (model prog w) A (pyNext (.ref c)) Q E s := by
  obtain ⟨st, old, is0, hb, q⟩ := st
  refine cn_stop hh hb ?_ hQ
  rcases q with ⟨rfl, h2, _⟩ | ⟨_, h2⟩ | ⟨k, rfl, rfl, hk⟩
  · rw [combs_first, if_pos h2] at hi
    cases hi
  · exact .inl h2
  · rw [(combs_next hk).2.2.2] at hi
    exact .inr ⟨rfl, by rw [nextM_eq]; exact hi⟩
/-- the choices that stand at as -/
structure COut (items : Array Value) (r : Nat) (lo : Addr) (h : Heap) (as : List Addr) : Prop where
  rise : as.Pairwise (· < ·)
  above : ∀ a ∈ as, lo < a
  tups : ∀ (j : Nat) (a : Addr), as[j]? = some a → ∃ is, (combsL r (List.range items.size))[j]? = some is ∧ h.get? a = some (tupObj (picks items is))
end
section
variable {prog : Program} {w : World} {A : Around} {s : Shared} {R : Result → Shared → Prop} {c p S : Addr} {items : Array Value} {r N : Nat}
theorem cl_loop (hh : A.handled = none) (hr : r ≤ 1000) (lc : c < S) (lp : p < S) (hN : (combsL r (List.range items.size)).length = N) (hn : N ≤ sizeLine) (res : Value) {h₁ : Heap}
    (hR : ∀ h' tk acc ep as, (∀ b o, b ≠ S → b ≠ c → h₁.get? b = some o → h'.get? b = some o) → h'.get? S = some { cls := .type "list", dict := none, data := .seq acc ep, slots := #[] } → as.length = N → COut items r S h' as →
      acc.toList = as.map Value.ref → R (.ok (.ret res)) { s with heap := h', toks := tk }) :
    ∀ (k i : Nat) (h : Heap) (tk ep : Nat) (acc : Array Value) (as : List Addr), N - i = k → i ≤ N → CnAt items r c p i h → (∀ b o, b ≠ S → b ≠ c → h₁.get? b = some o → h.get? b = some o) →
      h.get? S = some { cls := .type "list", dict := none, data := .seq acc ep, slots := #[] } → acc.toList = as.map Value.ref → as.length = i → COut items r S h as →
      codeAny (model prog w) A (.builtin "list.extend.loop" ⟨[.ref S, .ref c, res], []⟩) R { s with heap := h, toks := tk } := by
  have nc : S ≠ c := Nat.ne_of_gt lc
  have np : S ≠ p := Nat.ne_of_gt lp
  intro k
  induction k with
  | zero =>
    intro i h tk ep acc as hk hi hst hkeep hS hacc hal hG
    have hin : i = N := by omega
    refine codeAny_builtin PySem.F.entry_extend_loop ?_
    rw [Around.under_plainId PySem.F.plain_extend_loop _]
    show wpAny _ A.in1 (pyNext (.ref c) >>= _) _ _ _
    refine wpAny_bind (cn_end (s := { s with heap := h, toks := tk }) (A := A.in1) hh hst (List.getElem?_eq_none (by omega)) fun h' he => ?_)
    refine wpAny_pure (hR h' tk acc ep as (fun b o h1 h2 e => he b o h2 (hkeep b o h1 h2 e)) (he S _ nc hS) (by omega) ⟨hG.rise, hG.above, fun j a hj => ?_⟩ hacc)
    obtain ⟨is, e1, e2⟩ := hG.tups j a hj
    exact ⟨is, e1, he a _ (Nat.ne_of_gt (Nat.lt_trans lc (hG.above a (List.mem_of_getElem? hj)))) e2⟩
  | succ k ih =>
    intro i h tk ep acc as hk hi hst hkeep hS hacc hal hG
    have hlt : i < N := by omega
    have hsz : acc.size = i := by rw [← Array.length_toList, hacc, List.length_map, hal]
    obtain ⟨is, his⟩ : ∃ is, (combsL r (List.range items.size))[i]? = some is := ⟨_, List.getElem?_eq_getElem (by omega)⟩
    refine codeAny_builtin PySem.F.entry_extend_loop ?_
    rw [Around.under_plainId PySem.F.plain_extend_loop _]
    show wpAny _ A.in1 (pyNext (.ref c) >>= _) _ _ _
    have hSl : S < h.objs.size := Heap.lt_size hS
    refine wpAny_bind (cn_step (s := { s with heap := h, toks := tk }) hr hst his fun h' hst' ht hkp hz => ?_)
    dsimp only at ht hz hkp ⊢
    have hS' := hkp S _ nc hS
    have up : ∀ b o, b ≠ S → h'.get? b = some o → (h'.update S (Obj.mapSeq (·.push (Value.ref h.objs.size)))).get? b = some o := fun b o hb e => (Heap.get?_update_other _ _ (Ne.symm hb)).trans e
    have hS2 := Heap.get?_update_self (Obj.mapSeq (·.push (Value.ref h.objs.size))) hS' rfl
    show wpAny _ A.in1 (updateSeq S (·.push (Value.ref h.objs.size)) >>= _) _ _ _
    refine wpAny_bind ?_
    refine wpAny_updateSeq hS' rfl (wpAny_pure ⟨plainId_quiet PySem.F.plain_extend_loop _, ih (i + 1) _ tk _ (acc.push (Value.ref h.objs.size)) (as ++ [h.objs.size]) (by omega) hlt (hst'.keep (fun o e => up c o nc.symm e) (fun o e => up p o np.symm e))
      (fun b o h1 h2 e => up b o h1 (hkp b o h2 (hkeep b o h1 h2 e))) hS2 (by rw [Array.toList_push, hacc, List.map_append]; rfl) (by rw [List.length_append, hal]; rfl) ⟨?_, ?_, ?_⟩⟩) (by rw [hsz]; omega) (by show (acc.push (Value.ref h.objs.size)).size ≤ sizeLine + 1; rw [Array.size_push, hsz]; omega)
    · refine List.pairwise_append.mpr ⟨hG.rise, List.pairwise_singleton _ _, fun a ha b hb => ?_⟩
      rw [List.mem_singleton.mp hb]
      obtain ⟨j, hj⟩ := List.mem_iff_getElem?.mp ha
      obtain ⟨is, _, e⟩ := hG.tups j a hj
      exact Heap.lt_size e
    · intro a ha
      rcases List.mem_append.mp ha with ha | ha
      · exact hG.above a ha
      · rw [List.mem_singleton.mp ha]; exact hSl
    · intro j b hj
      rcases Nat.lt_trichotomy j as.length with g | g | g
      · rw [List.getElem?_append_left g] at hj
        obtain ⟨is, e1, e2⟩ := hG.tups j b hj
        have ha := hG.above b (List.mem_of_getElem? hj)
        exact ⟨is, e1, up b _ (Nat.ne_of_gt ha) (hkp b _ (Nat.ne_of_gt (Nat.lt_trans lc ha)) e2)⟩
      · subst g
        have hb : h.objs.size = b := by simpa using hj
        subst hb
        exact ⟨is, by rw [hal]; exact his, up _ _ (Nat.ne_of_gt hSl) ht⟩
      · have hnone : (as ++ [h.objs.size])[j]? = none := List.getElem?_eq_none (by rw [List.length_append, List.length_singleton]; omega)
        rw [hnone] at hj; cases hj
theorem cl_call {E : Value → Shared → Prop} {Q : Value → Shared → Prop} (hh : A.handled = none) (hr : r ≤ 1000) (hst : CnAt items r c p 0 s.heap) (hN : (combsL r (List.range items.size)).length = N) (hn : N ≤ sizeLine)
    (hQ : ∀ h' tk acc ep as, (∀ b o, b ≠ c → s.heap.get? b = some o → h'.get? b = some o) → h'.get? s.heap.objs.size = some { cls := .type "list", dict := none, data := .seq acc ep, slots := #[] } → as.length = N → COut items r s.heap.objs.size h' as →
      acc.toList = as.map Value.ref → Q (.ref s.heap.objs.size) { s with heap := h', toks := tk }) :
    wpAny (model prog w) A (call (.type "list") [.ref c]) Q E s := by
  obtain ⟨lc, lp, oz, hoz, hcz⟩ := hst.there
  refine callType_codes (Q₁ := fun obj s₁ => obj = .ref s.heap.objs.size ∧ s₁ = { s with heap := s.heap.push { cls := .type "list", data := .seq #[] } }) PySem.F.called_list (PySem.F.typeCall_list_1 _) PySem.F.entry_list_init
    (code_list_new _ ⟨rfl, rfl⟩) fun obj s₁ h₁ => ?_
  obtain ⟨rfl, rfl⟩ := h₁
  have hS : (s.heap.push { cls := .type "list", data := .seq #[] }).get? s.heap.objs.size = some { cls := .type "list", data := .seq #[] } := Heap.get?_push_size _ rfl
  refine ⟨⟨_, hS, rfl⟩, PySem.F.args_list_init_2 _ _, ?_⟩
  show wpAny _ A.in1.in1 (do let old ← Builtin.List.listItems (.ref s.heap.objs.size); Builtin.List.listUpdate (.ref s.heap.objs.size) (fun _ => #[]); letGo old.toList.reverse; Builtin.List.listExtendWith (.ref s.heap.objs.size) (.ref c) .none) _ _ _
  refine wpAny_bind ?_
  unfold Builtin.List.listItems
  refine wpAny_bind (wpAny_seqItems hS rfl (wpAny_pure ?_))
  show wpAny _ A.in1.in1 (updateSeq s.heap.objs.size (fun _ => #[]) >>= fun _ => letGo (#[] : Array Value).toList.reverse >>= fun _ => Builtin.List.listExtendWith (.ref s.heap.objs.size) (.ref c) .none) _ _ _
  refine wpAny_bind (wpAny_updateSeq hS rfl ?_)
  have hS2 := Heap.get?_update_self (Obj.mapSeq (fun _ => (#[] : Array Value))) hS rfl
  refine wpAny_bind (wpAny_letGo ?_)
  unfold Builtin.List.listExtendWith
  have up : ∀ (h : Heap) (f : Obj → Obj), (∀ b o, s.heap.get? b = some o → h.get? b = some o) → ∀ b o, s.heap.get? b = some o → (h.update s.heap.objs.size f).get? b = some o := fun h f q b o e =>
    (Heap.get?_update_other _ _ (Ne.symm (Nat.ne_of_lt (Heap.lt_size e)))).trans (q b o e)
  have k1 : ∀ b o, s.heap.get? b = some o → (s.heap.push { cls := .type "list", data := .seq #[] }).get? b = some o := fun b o e => Heap.get?_push_of_some _ e
  have k2 := up _ (Obj.mapSeq (fun _ => (#[] : Array Value))) k1
  have hT : ∀ {h : Heap}, (∀ b o, s.heap.get? b = some o → h.get? b = some o) → ({ s with heap := h } : Shared).TypeIs (.ref c) "itertools.combinations" := fun {h} q => ⟨oz, q c oz hoz, hcz⟩
  refine wpAny_bind (wpAny_typeOf (hT k2) ?_)
  have e1 : Builtin.List.listSameRef (.ref s.heap.objs.size) (.ref c) = false := by simp [Builtin.List.listSameRef, Nat.ne_of_gt lc]
  have e2 : (Value.type "itertools.combinations" == Value.type "list") = false := by decide
  have e3 : (Value.type "itertools.combinations" == Value.type "tuple") = false := by decide
  simp only [e1, e2, e3, Bool.or_false, Bool.false_eq_true, if_false]
  have zi : ∀ {h : Heap} {Q2 : Value → Shared → Prop} {A2 : Around} {E2 : Value → Shared → Prop}, (∀ b o, s.heap.get? b = some o → h.get? b = some o) → Q2 (.ref c) { s with heap := h } → wpAny (model prog w) A2 (pyIter (.ref c)) Q2 E2 { s with heap := h } := fun {h Q2 A2 E2} q r => by
    have hT2 := hT q
    refine wpAny_pyIter_slot hT2 Cb.slot_comb_iter (wpAny_call_entry Cb.slot_comb_iter hT2 Cb.entry_comb_iter ?_ (Cb.args_comb_iter _))
    show wpAny _ _ (ret (.ref c)) _ _ _
    exact wpAny_pure ⟨_, rfl, "itertools.combinations", _, hT2, Cb.slot_comb_next.lookup, r⟩
  refine wpAny_bind (zi k2 ?_)
  refine wpAny_bind (wpAny_holding ?_)
  unfold Builtin.List.listLengthHint
  refine wpAny_bind (wpAny_specialOf (hT k2) cl_no_len ?_)
  show wpAny _ A.in1.in1 (specialOf (Value.ref c) (Str.ofString "__length_hint__") >>= _) _ _ _
  refine wpAny_bind (wpAny_specialOf (hT k2) cl_no_hint ?_)
  refine wpAny_pure ?_
  show wpAny _ A.in1.in1 (rule "list.extend.makes-room" >>= fun _ => Builtin.List.listTouch (.ref s.heap.objs.size) >>= fun _ =>
    again (.builtin "list.extend.loop" ⟨[.ref s.heap.objs.size, .ref c, .none], []⟩)) _ _ _
  refine wpAny_bind (wpAny_rule ?_)
  refine wpAny_bind ?_
  show wpAny _ A.in1.in1 (updateSeq s.heap.objs.size (·.push .none) >>= fun _ => updateSeq s.heap.objs.size (·.pop)) _ _ _
  refine wpAny_bind (wpAny_updateSeq hS2 rfl ?_)
  have hS3 := Heap.get?_update_self (Obj.mapSeq (·.push Value.none)) hS2 rfl
  refine wpAny_updateSeq (hz := by seq_fits) hS3 rfl ?_
  have hS4 := Heap.get?_update_self (Obj.mapSeq (·.pop)) hS3 rfl
  have k4 := up _ (Obj.mapSeq (·.pop)) (up _ (Obj.mapSeq (·.push Value.none)) k2)
  refine wpAny_pure ⟨plainId_quiet PySem.F.plain_extend_loop _, ?_⟩
  exact cl_loop (N := N) (S := s.heap.objs.size) (s := s) (h₁ := s.heap) (A := A.in1) hh hr lc lp hN hn .none
    (fun h' tk acc ep as a1 a2 a3 a4 a5 => ⟨rfl, hQ h' tk acc ep as (fun b o b1 e => a1 b o (Nat.ne_of_lt (Heap.lt_size e)) b1 e) a2 a3 a4 a5⟩)
    N 0 _ s.toks _ #[] [] (Nat.sub_zero _) (Nat.zero_le _) (hst.keep (fun o e => k4 _ o e) (fun o e => k4 _ o e)) (fun b o _ _ e => k4 b o e) hS4 rfl rfl ⟨List.Pairwise.nil, (fun _ ha => nomatch ha), (fun j a hj => by simp at hj)⟩
end
end RZ
namespace RZ
open PySem PySem.Spec PyProof.Rows L2
open DL (combsL)
/-- tuples laid one behind the other -/
inductive LayN : Hp → List Addr → List (List V) → Hp → Prop
  | nil {H : Hp} : LayN H [] [] H
  | cons {H H2 : Hp} {p : Addr} {ps : List Addr} {x : List V} {xss : List (List V)} : H p = none → LayN (upd H p (.tup x)) ps xss H2 → LayN H (p :: ps) (x :: xss) H2
theorem layN_all {P : Program} {w : World} {fs : List Addr} {H0 : Hp} {h0 h' : Heap} : ∀ (as : List Addr) (xss : List (List V)) (H : Hp), Un fs [] H0 H h0 h' → HOk P w H h' → (∀ a ∈ as, h0.objs.size ≤ a ∧ H a = none) → as.Pairwise (· < ·) →
    (∀ (j : Nat) (a : Addr), as[j]? = some a → ∃ x us, xss[j]? = some x ∧ Vals x us ∧ x.length ≤ sizeLine ∧ h'.get? a = some (tupObj us.toArray)) → as.length = xss.length →
    ∃ H2, LayN H as xss H2 ∧ Un fs [] H0 H2 h0 h' ∧ HOk P w H2 h' ∧ ∀ b, b ∉ as → H2 b = H b
  | [], [], H, un, ok, _, _, _, _ => ⟨H, .nil, un, ok, fun _ _ => rfl⟩
  | [], _ :: _, _, _, _, _, _, _, hl => by simp at hl
  | _ :: _, [], _, _, _, _, _, _, hl => by simp at hl
  | a :: as, x :: xss, H, un, ok, hf, hp, ht, hl => by
    obtain ⟨ha, hn⟩ := hf a (List.mem_cons_self ..)
    obtain ⟨x', us, e, r1, hz, e3⟩ := ht 0 a rfl
    cases e
    have ok1 : HOk P w (upd H a (.tup x)) h' := ok.laidN (fun _ _ q => q) hn ⟨hz, us, r1, ⟨_, e3, rfl, _, rfl⟩⟩
    obtain ⟨p1, p2⟩ := List.pairwise_cons.mp hp
    obtain ⟨H2, q1, q2, q3, q4⟩ := layN_all as xss (upd H a (.tup x)) (Un.more un ha hn) ok1 (fun b hb => ⟨(hf b (List.mem_cons_of_mem _ hb)).1, by
      rw [upd_ne (Nat.ne_of_gt (p1 b hb))]; exact (hf b (List.mem_cons_of_mem _ hb)).2⟩) p2 (fun j b hj => ht (j + 1) b (by simpa using hj)) (by simpa using hl)
    refine ⟨H2, .cons hn q1, q2, q3, fun b hb => ?_⟩
    rw [q4 b (fun z => hb (List.mem_cons_of_mem _ z)), upd_ne (fun z => hb (by rw [z]; exact List.mem_cons_self ..))]
def combV (r : Nat) (xs : List V) : List (List V) := (combsL r (List.range xs.length)).map fun is => is.map fun j => xs.getD j .non
def tListComb (K : PySem.W.Frag) (ta : TA) : TE := fun σ H Q => ta σ H fun vs H1 => ∃ (a : Addr) (xs : List V) (r : Int), vs = [.ref a, .int r] ∧ (SqL K H1 a xs ∨ SqT K H1 a xs) ∧ 0 ≤ r ∧ r ≤ 1000 ∧ (combsL r.toNat xs).length ≤ 100000 ∧
  ∀ ps H2 l, LayN H1 ps (combV r.toNat xs) H2 → H2 l = none → Q (.ref l) (upd H2 l (.lst (ps.map V.ref)))
theorem pe_listComb {X : Cx} {e e2 : Expr} {ta : TA} {p pos p2 pos2 : Pos} (hgl : Gl X "list") (hml : X.mg "list" = none) (hgc : Gl X "combinations") (hmc : X.mg "combinations" = some (.type "itertools.combinations")) (ha : PA X [e, e2] ta) (hc : X.calm = true := by rfl)
    (na : starEach [.Call (.Name "combinations" p2) [e, e2] [] pos2] X.env = (false, eval (.Call (.Name "combinations" p2) [e, e2] [] pos2) X.env) :: starEach [] X.env := by rfl)
    (hs : starEach [e, e2] X.env = (false, eval e X.env) :: starEach [e2] X.env := by rfl) (hpl : (backTo pos2 (starEach [e2] X.env)).any (·.1) = false := by rfl) :
    PE X (.Call (.Name "list" p) [.Call (.Name "combinations" p2) [e, e2] [] pos2] [] pos) (tListComb X.K ta) := by
  refine ⟨fun pins s σ H Q I h => ?_⟩
  refine Call_ (ld_blt I hgl hml PyProof.Rows.boot_list ?_)
  refine PyProof.Rows.callWith_type1 (PyProof.Rows.args_cons ?_ na) na rfl
  refine Call_ (ld_glob I hgc hmc (PyProof.Rows.callWith_type1 (thn (ha.run pos2 pins s σ H _ I h) fun us s1 ⟨vs, H1, I1, r1, q1⟩ => ?_) hs hpl))
  obtain ⟨a, xs, j, ex, hq, b1, b2, hN, q⟩ := q1
  subst ex
  cases r1 with
  | cons r rr =>
    cases rr with
    | cons r' rr =>
      cases rr
      cases r
      obtain ⟨t, rfl⟩ := r'
      obtain ⟨T, o, its, n, hT, ho, hcl, hd, hz, rv⟩ : ∃ (T : String) (o : Obj) (its : List Value) (n : Nat), (T = "list" ∨ T = "tuple") ∧ s1.heap.get? a = some o ∧ o.cls = .type T ∧ o.data = .seq its.toArray n ∧ its.length ≤ sizeLine ∧ Vals xs its := by
        rcases hq with hq | hq
        · obtain ⟨its, rv, p, hz⟩ := I1.list hq
          obtain ⟨o, g1, g2, n, g3⟩ := p.isList
          exact ⟨"list", o, its, n, .inl rfl, g1, g2, g3, by rw [← rv.length]; exact hz, rv⟩
        · obtain ⟨its, rv, p, hz⟩ := I1.tuple hq
          obtain ⟨o, g1, g2, n, g3⟩ := p
          exact ⟨"tuple", o, its, n, .inr rfl, g1, g2, g3, by rw [← rv.length]; exact hz, rv⟩
      refine callType_newIn Cb.called_comb (by decide) (Cb.typeCall_comb _ _) (Cb.newCall_comb _ _) (fun obj => F.args_object_init_3 obj _ _) Cb.entry_comb_new
        (meets_combN X.prog X.w a j t T o its.toArray n)
        ⟨hT, ho, hcl, hd, by simpa using hz, b1, b2, fun h' hk hsz => ?_⟩
      have hz : (h'.push (tupObj its.toArray)).objs.size = h'.objs.size + 1 := Heap.size_push ..
      have hx : its.toArray.size = xs.length := by rw [List.size_toArray, rv.length]
      have hcn : IsCn ((h'.push (tupObj its.toArray)).push (cnObj h'.objs.size (if j.toNat > its.toArray.size then 2 else 0) .none (List.range j.toNat))) (h'.push (tupObj its.toArray)).objs.size h'.objs.size its.toArray (if j.toNat > its.toArray.size then 2 else 0) .none (List.range j.toNat) :=
        ⟨Heap.get?_push_size _ rfl, Heap.get?_push_of_some _ (Heap.get?_push_size _ rfl), by rw [hz]; exact Nat.succ_ne_self _⟩
      refine ⟨⟨_, hcn.obj, rfl⟩, ?_⟩
      have k0 : ∀ b o, s1.heap.get? b = some o → ((h'.push (tupObj its.toArray)).push (cnObj h'.objs.size (if j.toNat > its.toArray.size then 2 else 0) .none (List.range j.toNat))).get? b = some o := fun b o q => Heap.get?_push_of_some _ (Heap.get?_push_of_some _ (hk b o q))
      have at0 : CnAt its.toArray j.toNat (h'.push (tupObj its.toArray)).objs.size h'.objs.size 0 ((h'.push (tupObj its.toArray)).push (cnObj h'.objs.size (if j.toNat > its.toArray.size then 2 else 0) .none (List.range j.toNat))) := by
        refine ⟨_, .none, _, hcn, ?_⟩
        by_cases h2 : j.toNat ≤ its.toArray.size
        · exact .inl ⟨rfl, h2, by rw [if_neg (by omega)], rfl, rfl⟩
        · exact .inr (.inl ⟨by omega, by rw [if_pos (by omega)]⟩)
      have hNe : (combsL j.toNat (List.range its.toArray.size)).length = (combsL j.toNat xs).length := by
        rw [hx, DL.combs_at (z := V.non) (xs := xs), List.length_map]
      have b4 : 100000 ≤ sizeLine := by decide
      generalize hh1 : (h'.push (tupObj its.toArray)).push (cnObj h'.objs.size (if j.toNat > its.toArray.size then 2 else 0) .none (List.range j.toNat)) = h1 at k0 at0 ⊢
      have hs1 : h1.objs.size = h'.objs.size + 2 := by rw [← hh1, Heap.size_push, hz]
      refine PyProof.Rows.args_nil ?_
      refine cl_call (s := { s1 with heap := h1 }) (I1.ok.hd hc) (by omega) at0 hNe (by omega) fun h2 tk acc ep as kp hS hal zp hacc => ?_
      have kall : ∀ b o, s1.heap.get? b = some o → h2.get? b = some o := fun b o e => by
        have hb := Heap.lt_size e
        exact kp b o (Nat.ne_of_lt (Nat.lt_of_lt_of_le hb (by rw [hz]; omega))) (k0 b o e)
      have hle : s1.heap.objs.size ≤ h1.objs.size := by omega
      have hS' : h2.get? h1.objs.size = some { cls := .type "list", dict := none, data := .seq acc ep, slots := #[] } := hS
      have hvl : (combV j.toNat xs).length = (combsL j.toNat xs).length := by
        unfold combV
        rw [List.length_map, ← hx]
        exact hNe
      have hzl : as.length = (combV j.toNat xs).length := by rw [hal, hvl]
      obtain ⟨H2, q1, q2, q3, q4⟩ := layN_all (P := X.prog) (w := X.w) (fs := X.fs) (H0 := H1) (h0 := s1.heap) (h' := h2) as (combV j.toNat xs) H1 (Un.kept kall) (I1.hok.kept kall) (fun b hb => ⟨Nat.le_trans hle (Nat.le_of_lt (zp.above b hb)), I1.hok.fresh (Nat.le_trans hle (Nat.le_of_lt (zp.above b hb)))⟩) zp.rise (fun k b hj => by
        obtain ⟨is, e1, e2⟩ := zp.tups k b hj
        rw [hx] at e1
        obtain ⟨c1, c2, c3, _⟩ := DL.combs_next e1
        refine ⟨_, is.map fun j => its.toArray.getD j .none, by unfold combV; rw [List.getElem?_map, e1]; rfl, cn_items (items := its.toArray) rv c1, by rw [List.length_map]; omega, e2⟩) hzl
      have hSn : h1.objs.size ∉ as := fun z => Nat.lt_irrefl _ (zp.above _ z)
      have hSH : H2 h1.objs.size = none := by rw [q4 _ hSn]; exact I1.hok.fresh hle
      have okF : HOk X.prog X.w (upd H2 h1.objs.size (.lst (as.map V.ref))) h2 := q3.laidN (fun _ _ q => q) hSH ⟨by rw [List.length_map, hal]; omega, as.map Value.ref, ep, vals_refs as, by rw [hS', ← hacc]⟩
      exact ⟨.ref h1.objs.size, _, I1.un (t' := tk) (Un.more q2 hle hSH) okF, rfl, q as H2 _ q1 hSH⟩
end RZ
namespace DL
open L2 PySem PySem.Spec PyProof.Rows
open Evl (Ex ex_l ex_t sz_of)
section
variable {K : PySem.W.Frag} {T : Tb} {S : SA} {E : XK}
theorem layN_dn {n : Nat} : ∀ {ps : List Addr} {xss : List (List V)} {H H2 Hb : Hp} {dss : List (List D)}, RZ.LayN H ps xss H2 → World T S Hb H → xss.length = dss.length → (∀ (j : Nat) x, xss[j]? = some x → ∃ ds, dss[j]? = some ds ∧ DnA K Hb x ds) →
    ∃ Hb2, Stp K T S Hb H n Hb2 H2 n ∧ DnA K Hb2 (ps.map V.ref) (dss.map D.tup) := by
  intro ps xss H H2 Hb dss l
  induction l generalizing Hb dss with
  | nil =>
    intro w hl _
    cases dss with
    | nil => exact ⟨Hb, .refl w, .nil⟩
    | cons d ds => simp at hl
  | @cons H H2 p ps x xss hp l ih =>
    intro w hl h
    cases dss with
    | nil => simp at hl
    | cons ds dss =>
      obtain ⟨ds', e, hx⟩ := h 0 x rfl
      cases e
      have s1 : Stp K T S Hb H n _ _ n := .new w hp (o := .tup x)
      have ex := Ex.new (o := .tup x) (free_of w.ex hp)
      obtain ⟨Hb2, s2, q⟩ := ih s1.wd (by simpa using hl) (fun j y hy => by
        obtain ⟨es, e1, e2⟩ := h (j + 1) y (by simpa using hy)
        exact ⟨es, by simpa using e1, e2.up ex⟩)
      refine ⟨Hb2, s1.trans s2, ?_⟩
      have e0 : Dn K (upd Hb p (.tup x)) (.ref p) (.tup ds) := .tup (SqT.of upd_same) (hx.up ex)
      exact .cons (e0.up s2.ex) q
def xListComb (G : DTA) : DT := fun ρ n P XP => G ρ n (fun ss n1 => match ss with
  | [.d (.lst xs), .d (.int j)] => 0 ≤ j ∧ j ≤ 1000 ∧ (combT j.toNat xs).length ≤ 100000 ∧ P (.lst (combT j.toNat xs)) n1
  | [.d (.tup xs), .d (.int j)] => 0 ≤ j ∧ j ≤ 1000 ∧ (combT j.toNat xs).length ≤ 100000 ∧ P (.lst (combT j.toNat xs)) n1
  | _ => False) XP
theorem combT_at {vs : List V} {ds : List D} {r : Nat} (h : vs.length = ds.length) : combT r ds = ((combsL r (List.range vs.length)).map fun is => is.map fun j => ds.getD j .non).map D.tup := by
  unfold combT
  rw [combs_at (z := D.non) (xs := ds), h]
theorem rd_listComb {ta : TA} {GA : DTA} (h1 : RdA K T S E ta GA) : Rd K T S E (RZ.tListComb K ta) (xListComb GA) := fun σ ρ Hb H n P XP Q w sl h q x =>
  h1 σ ρ Hb H n _ XP _ w sl h (fun ss vs n1 Hb1 H1 s ha p => by
    have go : ∀ {as : List V} {ds : List D} {j : Int} {H2 : Hp} {ps : List Addr} {l : Addr}, DnA K Hb1 as ds → RZ.LayN H1 ps (RZ.combV j.toNat as) H2 → H2 l = none → P (.lst (combT j.toNat ds)) n1 → Q (.ref l) (upd H2 l (.lst (ps.map V.ref))) := fun {as ds j H2 ps l} g lay hn p => by
      rw [combT_at g.len] at p
      obtain ⟨Hb2, s2, hq⟩ := layN_dn (K := K) (n := n1) lay s.wd (dss := (combsL j.toNat (List.range as.length)).map fun is => is.map fun j => ds.getD j .non) (by unfold RZ.combV; rw [List.length_map, List.length_map]) (fun k x hx => by
        unfold RZ.combV at hx
        rw [List.getElem?_map] at hx ⊢
        obtain ⟨is, e, rfl⟩ := Option.map_eq_some_iff.mp hx
        rw [e]
        exact ⟨_, rfl, g.picks (combs_next e).1⟩)
      exact (q.step (s.trans s2)).new s2.wd hn (.lst (SqL.of upd_same) (hq.up (Ex.new (free_of s2.wd.ex hn)))) p
    have ln : ∀ {as : List V} {ds : List D} {r : Nat}, as.length = ds.length → (combT r ds).length ≤ 100000 → (combsL r as).length ≤ 100000 := fun {as ds r} e h => by
      rw [combT_at e, List.length_map, List.length_map] at h
      rw [combs_at (z := V.non), List.length_map]
      exact h
    match ss, ha, p with
    | [.d (.lst xs), .d (.int j)], ha, p =>
      obtain ⟨v, u, rfl, hv, hu⟩ := Args.two (ss := []) ha
      cases hu
      cases hv with
      | @lst a as ds g1 g2 => exact ⟨a, as, j, rfl, .inl (ex_l s.wd.ex g1), p.1, p.2.1, ln g2.len p.2.2.1, fun ps H2 l lay hn => go g2 lay hn p.2.2.2⟩
    | [.d (.tup xs), .d (.int j)], ha, p =>
      obtain ⟨v, u, rfl, hv, hu⟩ := Args.two (ss := []) ha
      cases hu
      cases hv with
      | @tup a as ds g1 g2 => exact ⟨a, as, j, rfl, .inr (ex_t s.wd.ex g1), p.1, p.2.1, ln g2.len p.2.2.1, fun ps H2 l lay hn => go g2 lay hn p.2.2.2⟩) x
end
end DL

/-! defs that give a new list, not frozen -/
namespace DL
open L2 PySem PySem.Spec PyProof.Rows
open Evl (Ex ex_l ex_t sz_of)
def ROk (K : PySem.W.Frag) (T : Tb) (S : SA) (Hb H : Hp) (n : Nat) (P : List D → Nat → Prop) (Q : VK) : Prop :=
  ∀ ds p vs n' Hb' H', Stp K T S Hb H n Hb' H' n' → Fresh H p → H' p = some (.lst vs) → Hb' p = none → DnA K Hb' vs ds → P ds n' → Q (.ref p) H'
/-- suites that end with the return of a new list -/
abbrev DTR := (List D → Nat → Prop) → List SV → Nat → DX → Prop
def RdSO (K : PySem.W.Frag) (T : Tb) (S : SA) (E : XK) (ts : TS) (G : DTR) : Prop :=
  ∀ σ ρ Hb0 H0 n0 Hb H n P XP D, Stp K T S Hb0 H0 n0 Hb H n → Sl0 K S H0 Hb H n ρ σ → G P ρ n XP → ROk K T S Hb0 H0 n0 P D.rt → XOk K T S Hb0 H0 n0 XP E → ts D σ H
def xoSeq (F : DTS) (G : DTR) : DTR := fun P ρ n XP => F { nx := fun ρ' n' => G P ρ' n' XP, rt := fun _ _ => False } ρ n XP
def xoRet (F : DTL) : DTR := fun P ρ n XP => F ρ n P XP
abbrev DSpO := List SV → Nat → (List D → Nat → Prop) → DX → Prop
def spO (K : PySem.W.Frag) (T : Tb) (DS : DSpO) : Sp := fun vs H Q E => ∃ S Hb n ss P XP, World T S Hb H ∧ Args K S Hb H n ss vs ∧ (noOl ss = true ∧ DS ss n P XP) ∧ ROk K T S Hb H n P Q ∧ XOk K T S Hb H n XP E
section
variable {K : PySem.W.Frag} {T : Tb} {S : SA} {E : XK} {Hb H Hb1 H1 H0 : Hp} {n n1 : Nat} {t u : TS} {te : TE} {P : List D → Nat → Prop} {Q : VK}
theorem ROk.step (a : Stp K T S Hb H n Hb1 H1 n1) (h : ROk K T S Hb H n P Q) : ROk K T S Hb1 H1 n1 P Q := fun ds p vs n' Hb' H' s f => h ds p vs n' Hb' H' (a.trans s) (a.dm p f)
theorem rdso_seq {F : DTS} {G : DTR} (h1 : RdS K T S E t F) (h2 : RdSO K T S E u G) : RdSO K T S E (tSeq t u) (xoSeq F G) := fun σ ρ Hb0 H0 n0 Hb H n P XP D a sl h q x =>
  h1 σ ρ Hb0 H0 n0 Hb H n _ XP _ a sl h ⟨fun ρ' σ' n' Hb' H' e s sl' p => h2 σ' ρ' Hb0 H0 n0 Hb' H' n' P XP D s sl' p q x, fun _ _ _ _ _ _ _ p => p.elim, fun _ _ _ _ _ _ _ _ p => p.elim, fun _ _ _ _ _ _ _ _ p => p.elim⟩ x
theorem rdso_ret {F : DTL} (h1 : RdN K T S E te F) : RdSO K T S E (tRet te) (xoRet F) := fun σ ρ Hb0 H0 n0 Hb H n P XP D a sl h q x =>
  h1 σ ρ Hb H n _ XP _ a.wd sl.sl h (q.step a) (x.step a)
variable {Pr : Program} {w : PySem.World} {mg : Str → Option Value} {base : Heap}
theorem _root_.L2.Fun.okXO {x qual : Str} {st : Stmt} {f : Addr} {fd : FuncData} {N ps : List Str} {k : Nat} {DS : DSpO} (F : Fun K x qual st f fd) (Sc : FnScope N ps (defScope st)) (len : ∀ ss n P XP, DS ss n P XP → ss.length = ps.length)
    (hb : ∀ (S : SA) (cdv : Value) (A : Around) (outer : List Env) (s : Shared) (H : Hp) (E : XK), Room k (A.deeper (envOfC qual (defScope st) s.heap.objs.size f cdv)) →
      ∃ ts G, PSs (cxOf (L2.CX Pr w) Pr w K mg base N qual (defScope st) f cdv A outer s H E) (defBody st) ts ∧ RdSO K T S E ts G ∧ ∀ ss n P XP, DS ss n P XP → G P (startS N ss) n XP) :
    FnOk Pr w K mg base (L2.CX Pr w) (k + 1) f fd ps (spO K T DS) := by
  refine F.okX Sc (fun vs H Q E h => ?_) (fun cdv A outer s H vs Q E hr h => ?_)
  · obtain ⟨S, Hb, n, ss, P, XP, _, ha, ⟨_, hd⟩, _⟩ := h
    rw [← ha.len]
    exact len ss n P XP hd
  · obtain ⟨S, Hb, n, ss, P, XP, wd, ha, ⟨ho, hd⟩, q, x⟩ := h
    obtain ⟨ts, G, h1, h2, h3⟩ := hb S cdv A outer s H E hr
    exact ⟨ts, h1, h2 _ _ Hb H n Hb H n _ XP _ (.refl wd) ⟨.start ha (noL_of ho), start_fr ho⟩ (h3 ss n P XP hd) q x⟩
/-! calls -/
def xnCallO (DS : DSpO) (G : DTA) : DTL := fun ρ n P XP => G ρ n (fun ss n1 => noOl ss = true ∧ DS ss n1 P XP) XP
theorem rdn_callO {DS : DSpO} {ta : TA} {G : DTA} (h : RdA K T S E ta G) : RdN K T S E (tCall (spO K T DS) [] E ta) (xnCallO DS G) := fun σ ρ Hb H n P XP Q w sl hf q x =>
  h σ ρ Hb H n _ XP _ w sl hf (fun ss vs n1 Hb1 H1 s ha p => by
    show spO K T DS (vs ++ []) H1 Q E
    rw [List.append_nil]
    exact ⟨S, Hb1, n1, ss, P, XP, s.wd, ha, p, ROk.step s q, x.step s⟩) x
/-- where it does not raise -/
def xnCallO0 (DS : DSpO) (G : DTA) : DTL := fun ρ n P XP => G ρ n (fun ss n1 => noOl ss = true ∧ DS ss n1 P xF) XP
theorem rdn_callO0 {DS : DSpO} {ta : TA} {G : DTA} {E' : XK} (h : RdA K T S E' ta G) : RdN K T S E' (tCall (spO K T DS) [] E0 ta) (xnCallO0 DS G) := fun σ ρ Hb H n P XP Q w sl hf q x =>
  h σ ρ Hb H n _ XP _ w sl hf (fun ss vs n1 Hb1 H1 s ha p => by
    show spO K T DS (vs ++ []) H1 Q E0
    rw [List.append_nil]
    exact ⟨S, Hb1, n1, ss, P, xF, s.wd, ha, p, ROk.step s q, .none⟩) x
def xnCallKwO (DS : DSpO) (a b : Nat) (ix : List Nat) (G Gk : DTA) : DTL := fun ρ n P XP => G ρ n (fun ss n1 => Gk ρ n1 (fun ts n2 => ss.length = a ∧ ts.length = b ∧ noOl (gp ix ss ts) = true ∧ DS (gp ix ss ts) n2 P xF) XP) XP
theorem rdn_callKwO {DS : DSpO} {ix : List Nat} {a b : Nat} {ta tk : TA} {G Gk : DTA} {E' : XK} (h1 : RdA K T S E ta G) (h2 : RdA K T S E tk Gk) :
    RdN K T S E (tCallN a b (spO K T DS) (gp ix) E0 ta tk) (xnCallKwO DS a b ix G Gk) := fun σ ρ Hb H n P XP Q wd sl h q x =>
  h1 σ ρ Hb H n _ XP _ wd sl h (fun ss vs n1 Hb1 H1 s ha p => h2 σ ρ Hb1 H1 n1 _ XP _ s.wd (sl.step s) p (fun ts us n2 Hb2 H2 s2 hb p2 => by
    obtain ⟨e1, e2, p2⟩ := p2
    exact ⟨by rw [← ha.len]; exact e1, by rw [← hb.len]; exact e2, S, Hb2, n2, gp ix ss ts, P, xF, s2.wd, (ha.step s2).append (hb.gpI ix), p2, ROk.step s2 (ROk.step s q), .none⟩) (x.step s)) x
/-- a new list taken as data -/
def xOf (F : DTL) : DT := fun ρ n P XP => F ρ n (fun ds n1 => P (.lst ds) n1) XP
theorem rd_ofN {F : DTL} (h : RdN K T S E te F) : DL.Rd K T S E te (xOf F) := rd_of_new h
end
end DL

/-! sorted of tuples the first of which is () -/
namespace SCo
open L2 PySem PySem.Spec PyProof.Rows PySem.W
section
variable {prog : Program} {w : PySem.World} {A : Around} {E : Value → Shared → Prop} {s : Shared} {β : Type} {bs : List β} {enc : β → PyData} {R : Value → β → Prop}
end
end SCo

/-! <, <=, >, >= and sorted of any data that is alike -/
namespace SCo
open L2 PySem PySem.Spec PyProof.Rows PySem.W
section
variable {prog : Program} {w : PySem.World} {A : Around} {E : Value → Shared → Prop} {s : Shared} {β : Type} {bs : List β} {enc : β → PyData} {R : Value → β → Prop}
end
section
variable {X : Cx}
end
end SCo
namespace DL
open L2 PySem PySem.Spec PyProof.Rows SCo
open Evl (Ex ex_l ex_t sz_of)
section
variable {K : PySem.W.Frag}
theorem DnA.both {H : Hp} : ∀ {xs : List D} {vs : List V}, DnA K H vs xs → ∃ bs : List (V × D), vs = bs.map (·.1) ∧ xs = bs.map (·.2) ∧ ∀ b ∈ bs, Dn K H b.1 b.2
  | [], _, h => by cases h; exact ⟨[], rfl, rfl, fun b hb => nomatch hb⟩
  | x :: xs, _, h => by
    cases h with
    | @cons v vs d ds h1 h2 =>
      obtain ⟨bs, rfl, rfl, hb⟩ := DnA.both h2
      refine ⟨(v, x) :: bs, rfl, rfl, fun b hm => ?_⟩
      rcases List.mem_cons.mp hm with rfl | hm
      · exact h1
      · exact hb b hm
end
end DL

/-! tuples of tuples of ints: their order, sorted lists of these -/
namespace DL
open L2 PySem PySem.Spec PyProof.Rows SCo PySem.W
def tt (nss : List (List Int)) : D := .tup (nss.map tupI)
theorem ltI_irr (a : List Int) : ltI a a = false := decide_eq_false (List.lt_irrefl a)
theorem ltI_trans {a b c : List Int} (h1 : ltI a b = true) (h2 : ltI b c = true) : ltI a c = true := decide_eq_true (List.lt_trans (of_decide_eq_true h1) (of_decide_eq_true h2))
/-! tuples of ints, the first of which may be () -/
/-! == and in -/
end DL

/-! repr of large data -/
namespace DL
open L2 PySem PySem.Spec PyProof.Rows
open Evl (Ex ex_l ex_t sz_of)
section
variable {K : PySem.W.Frag} {T : Tb} {S : SA} {E : XK} {Hb H : Hp} {n : Nat} {P : DQ} {Q : VK} {X : Cx}
def okRL (d : PyData) : Prop := d.showable = true ∧ d.hasDict = false ∧ d.depth ≤ 60 ∧ d.shown.length ≤ 10000000
def rReprL (K : PySem.W.Frag) : List V → Hp → VK → Prop := fun xs H Q => ∃ v d, xs = [v] ∧ Dp K H v d ∧ okRL d ∧ Q (.str d.shown) H
theorem call_reprL (hg : X.A.guards = some []) (hu : X.A.units + 64 < cLine) : CallR X (.builtin "repr") (rReprL X.K) := by
  intro pins s σ H xs us Q I r h
  obtain ⟨v, d, rfl, hd, ⟨h1, h2, h3, h4⟩, q⟩ := h
  have b5 : 10000000 ≤ sizeLine := by decide
  have h5 : d.shown.length ≤ sizeLine := Nat.le_trans h4 b5
  obtain ⟨u, rfl, ru⟩ : ∃ u, us = [u] ∧ RelV v u := by
    cases r with
    | cons a b => cases b; exact ⟨_, rfl, a⟩
  have seqs : ∀ a, u = .ref a → isDisplay d = true → wpAny (model X.prog X.w) X.A (call (.builtin "repr") [u]) (EP X pins σ Q) X.xe s := fun a e _ => by
    subst e
    obtain ⟨as, rd⟩ := Dp.reads I d v _ hd ru
    refine repr_of_reads' rd h1 (PyData.noDict_hsm h2) hg (by omega) (fun _ _ e => e) (fun h' u tk hk => ?_) h5
    exact ⟨.str d.shown, H, I.kept (h' := h') (t' := tk) hk, ⟨_, rfl⟩, q⟩
  cases hd with
  | non => cases ru; exact PySem.P.repr_of_none ⟨.str _, H, I.tok _, ⟨_, rfl⟩, q⟩
  | bl b => cases ru; exact PySem.P.repr_of_bool ⟨.str _, H, I.tok _, ⟨_, rfl⟩, q⟩
  | int i =>
    obtain ⟨t, rfl⟩ := ru
    exact PySem.P.repr_of_int (by simpa [PyData.showable] using h1) ⟨.str _, H, I.tok _, ⟨_, rfl⟩, q⟩
  | str x =>
    obtain ⟨t, rfl⟩ := ru
    exact PySem.P.repr_of_str ⟨.str _, H, I.tok _, ⟨_, rfl⟩, q⟩ h5
  | lst a b => exact seqs _ ru rfl
  | tup a b => exact seqs _ ru rfl
def reprLD : List SV → (D → Prop) → Prop
  | [.d d], k => ∃ p, toP d = some p ∧ okRL p ∧ k (.str p.shown)
  | _, _ => False
theorem cal_reprL : Cal K (rReprL K) reprLD := by
  intro T S vs ss Hb H n P Q w ha h q
  cases ha with
  | nil => exact h.elim
  | @cons s v ss vs h1 h2 =>
    cases h2 with
    | cons _ _ => cases s <;> exact h.elim
    | nil =>
      cases s with
      | d d =>
        obtain ⟨p, e, ok, h⟩ := h
        obtain ⟨v', e', hv⟩ := h1
        cases e'
        exact ⟨v, p, rfl, Dn.toDp d (w.dn hv) e, ok, q.now w (.str _) h⟩
      | _ => exact h.elim
end
end DL


namespace Lw
open L2 PySem DL
/-! the mathematics of tables -/
mutual
/-- nothing that was caught is in it -/
def nx : D → Bool
  | .exc _ _ _ => false
  | .fnv _ => false
  | .dit _ _ => false
  | .lam _ => false
  | .lst xs => nxs xs
  | .tup xs => nxs xs
  | .dic _ xs => nxs xs
  | .ins _ _ xs => nxs xs
  | _ => true
def nxs : List D → Bool
  | [] => true
  | d :: ds => nx d && nxs ds
end
theorem bare_of {d : D} (h : nx d = true) : bareD d := by cases d <;> first | trivial | (simp [nx] at h)
theorem nxs_mem : ∀ {ds : List D} {d : D}, nxs ds = true → d ∈ ds → nx d = true
  | e :: es, d, h, hm => by
    simp [nxs] at h
    rcases List.mem_cons.mp hm with rfl | hm
    · exact h.1
    · exact nxs_mem h.2 hm
theorem nxs_of : ∀ {ds : List D}, (∀ d ∈ ds, nx d = true) → nxs ds = true
  | [], _ => rfl
  | d :: ds, h => by
    simp only [nxs, Bool.and_eq_true]
    exact ⟨h d List.mem_cons_self, nxs_of fun e he => h e (List.mem_cons_of_mem _ he)⟩
def betw (lo hi : Int) : D → Bool
  | .int i => decide (lo ≤ i) && decide (i ≤ hi)
  | _ => false
def cellB (k : D) (d : D) : Bool := match d, k with
  | .non, _ => true
  | .int i, .int k => decide (0 ≤ i) && decide (i ≤ k - 1)
  | _, _ => false
def kindsB : D → Bool
  | .tup ks => decide (1 ≤ ks.length) && decide (ks.length ≤ 8) && ks.all (betw 1 6)
  | _ => false
def rowB (ks : List D) : D → Bool
  | .tup cs => decide (cs.length = ks.length) && (ks.zip cs).all fun p => cellB p.1 p.2
  | _ => false
theorem compM_map {step : D → Nat → (Option D → Nat → Prop) → Prop} {f : D → D} : ∀ {xs : List D} {n : Nat} {P : List D → Nat → Prop}, (∀ x ∈ xs, ∀ n (k : Option D → Nat → Prop), k (some (f x)) n → step x n k) → P (xs.map f) n → compM step xs n P
  | [], _, _, _, p => p
  | x :: xs, n, P, h, p => h x List.mem_cons_self n _ (compM_map (fun y hy => h y (List.mem_cons_of_mem _ hy)) p)
theorem compM_filter {step : D → Nat → (Option D → Nat → Prop) → Prop} {f : D → Option D} : ∀ {xs : List D} {n : Nat} {P : List D → Nat → Prop}, (∀ x ∈ xs, ∀ n (k : Option D → Nat → Prop), k (f x) n → step x n k) → P (xs.filterMap f) n → compM step xs n P
  | [], _, _, _, p => p
  | x :: xs, n, P, h, p => h x List.mem_cons_self n _ (compM_filter (fun y hy => h y (List.mem_cons_of_mem _ hy)) (by
      rw [List.filterMap_cons] at p
      cases e : f x with
      | none => rw [e] at p; exact p
      | some d => rw [e] at p; exact p))
theorem blsD_map {α : Type} {f : α → Bool} : ∀ {xs : List α}, blsD (xs.map fun x => D.bl (f x)) = some (xs.map f)
  | [] => rfl
  | x :: xs => by simp [blsD, blsD_map (xs := xs)]
theorem all_map {α : Type} {f : α → Bool} {xs : List α} : (xs.map f).all id = xs.all f := by simp [List.all_map]
theorem allD_map {f : D → Bool} {xs : List D} {k : D → Prop} (h : k (.bl (xs.all f))) : allD' (.lst (xs.map fun x => .bl (f x))) k := ⟨_, blsD_map, by rw [all_map]; exact h⟩
theorem toPs_ints : ∀ js : List Int, toPs (js.map D.int) = some (js.map PyData.int)
  | [] => rfl
  | j :: js => by simp [toPs, toP, toPs_ints js]
theorem lay_ints : ∀ js : List Int, PySem.PyData.canLayAll0 (js.map PyData.int) = true
  | [] => rfl
  | j :: js => by simp [PySem.PyData.canLayAll0, PySem.PyData.canLay0, lay_ints js]
theorem dep_ints : ∀ js : List Int, PySem.PyData.depthAll (js.map PyData.int) = 0
  | [] => rfl
  | j :: js => by simp [PySem.PyData.depthAll, PySem.PyData.depth, dep_ints js]
theorem eq_ints {f : Bool → Bool} {js : List Int} {k : D → Prop} (h : k (.bl (f js.isEmpty))) : eqP f (.lst (js.map D.int)) (.lst []) k := by
  refine ⟨.list (js.map PyData.int), .list [], by simp [toP, toPs_ints], by simp [toP, toPs], ?_, ?_, ?_⟩
  · simp [SeqAt.shaped, PySem.PyData.canLay0, PySem.PyData.depth, lay_ints, dep_ints]
  · simp [SeqAt.shaped, PySem.PyData.canLay0, PySem.PyData.canLayAll0, PySem.PyData.depth, PySem.PyData.depthAll]
  · cases js <;> simpa [PyData.eqv, PyData.eqvAll] using h
def ones {α : Type} (b : α → Bool) (xs : List α) : List D := xs.filterMap fun x => if b x then some (D.int 1) else none
theorem ones_eq {α : Type} {b : α → Bool} : ∀ {xs : List α}, ones b xs = ((xs.filter b).map fun _ => (1 : Int)).map D.int
  | [] => rfl
  | x :: xs => by
    have z := ones_eq (b := b) (xs := xs)
    unfold ones at z ⊢
    rw [List.filterMap_cons, List.filter_cons]
    cases h : b x
    · simpa using z
    · simpa using z
theorem eq_ones {α : Type} {b : α → Bool} {xs : List α} {f : Bool → Bool} {k : D → Prop} (h : k (.bl (f (xs.all fun x => !b x)))) : eqP f (.lst (ones b xs)) (.lst []) k := by
  rw [ones_eq]
  refine eq_ints ?_
  have e : ((xs.filter b).map fun _ => (1 : Int)).isEmpty = xs.all fun x => !b x := by
    rw [Bool.eq_iff_iff]
    simp [List.filter_eq_nil_iff]
  rw [e]
  exact h
theorem at_nat {xs : List D} {j : Nat} {d : D} (h : xs[j]? = some d) : atD xs (j : Int) = some d := by
  have hj := (List.getElem?_eq_some_iff.mp h).1
  have e : ixN xs.length (j : Int) = some j := by
    unfold ixN
    rw [if_pos (by omega), if_pos (by omega), Int.toNat_natCast]
  unfold atD
  rw [e]
  exact h
theorem at_zero {x : D} {xs : List D} : atD (x :: xs) 0 = some x := at_nat (j := 0) rfl
theorem cut_to {xs : List D} {i : Nat} : cutD xs none (some (i : Int)) = xs.take i := by
  unfold cutD
  rw [HT.sIx_nat, HT.sIx_none, List.drop_zero]
  simp [List.take_eq_take_iff]
theorem cut_from {xs : List D} {i : Nat} : cutD xs (some (i : Int)) none = xs.drop i := by
  unfold cutD
  rw [HT.sIx_nat, HT.sIx_none]
  by_cases h : i ≤ xs.length
  · rw [Nat.min_eq_left h]
    exact List.take_of_length_le (by simp)
  · rw [Nat.min_eq_right (by omega)]
    rw [List.drop_of_length_le (Nat.le_refl _), List.drop_of_length_le (by omega)]
    simp
theorem cut_from1 {xs : List D} {i : Nat} : cutD xs (some ((i : Int) + 1)) none = xs.drop (i + 1) := cut_from (i := i + 1)
/-- the cell of matter j in a row -/
def atN (r : D) (j : Nat) : D := match r with
  | .tup cs => cs.getD j .non
  | _ => .non
def colU (rs : List D) (j : Nat) : Bool := rs.all fun r => DL.isNon (atN r j)
def firstU (m : Nat) (rs : List D) : Option Nat := (List.range m).find? (colU rs)
def rowsB (ks : List D) : D → Bool
  | .tup rs => decide (1 ≤ rs.length) && decide (rs.length ≤ 12) && rs.all (rowB ks) && (firstU ks.length rs).isNone
  | _ => false
def kR : List Str := ["kinds", "rows"]
def tabD (C : Addr) (ks rs : List D) : D := .ins C kR [.tup ks, .tup rs]
theorem rowB_inv {ks : List D} {d : D} (h : rowB ks d = true) : ∃ cs : List D, d = .tup cs ∧ cs.length = ks.length ∧ ∀ (j : Nat) (k c : D), ks[j]? = some k → cs[j]? = some c → cellB k c = true := by
  cases d with
  | tup cs =>
    simp only [rowB, Bool.and_eq_true, decide_eq_true_eq] at h
    refine ⟨cs, rfl, h.1, fun j k c e1 e2 => ?_⟩
    rw [List.all_eq_true] at h
    have z : (ks.zip cs)[j]? = some (k, c) := by simp [List.getElem?_zip_eq_some, e1, e2]
    exact h.2 _ (List.mem_of_getElem? z)
  | _ => simp [rowB] at h
theorem firstU_some {m i : Nat} {rs : List D} (hi : i < m) (h : colU rs i = true) (hn : ∀ j < i, colU rs j = false) : firstU m rs = some i :=
  List.find?_range_eq_some.mpr ⟨h, List.mem_range.mpr hi, fun j hj => by simp [hn j hj]⟩
theorem firstU_none {m : Nat} {rs : List D} (hn : ∀ j < m, colU rs j = false) : firstU m rs = none :=
  List.find?_range_eq_none.mpr fun j hj => by simp [hn j hj]
theorem vd_k {a b : D} : valD [Sum.inr (Str.ofString "kinds"), Sum.inr (Str.ofString "rows")] [a, b] (Sum.inr (Str.ofString "kinds")) = some a := rfl
theorem vd_r {a b : D} : valD [Sum.inr (Str.ofString "kinds"), Sum.inr (Str.ofString "rows")] [a, b] (Sum.inr (Str.ofString "rows")) = some b := by
  have e : ¬ (Sum.inr (Str.ofString "kinds") : Key) = Sum.inr (Str.ofString "rows") := by simp; decide
  unfold valD
  rw [if_neg e]
  unfold valD
  exact if_pos rfl
theorem lim {n : Nat} (h : n < 1099511627776) : n < LIM := h
theorem kit_no {K : PySem.W.Frag} {C : Addr} (no : ∀ t ∈ ["NoneType", "bool", "int", "str", "list", "tuple", "dict"], PySem.W.kitOne K (.type t) (.ref C) = some false) {d : D} (h : nx d = true) (hi : ∀ C ns ds, d ≠ .ins C ns ds) : PySem.W.kitOne K (tyD d) (.ref C) = some false := by
  cases d with
  | non => exact no "NoneType" (by simp)
  | bl b => exact no "bool" (by simp)
  | int i => exact no "int" (by simp)
  | str x => exact no "str" (by simp)
  | lst xs => exact no "list" (by simp)
  | tup xs => exact no "tuple" (by simp)
  | dic ks ds => exact no "dict" (by simp)
  | ins C ns ds => exact absurd rfl (hi C ns ds)
  | exc C ns ds => simp [nx] at h
  | fnv f => simp [nx] at h
  | dit ks ds => simp [nx] at h
  | lam F => simp [nx] at h
theorem fld_k {a b : D} : fldD kR [a, b] "kinds" = some a := rfl
theorem fld_r {a b : D} : fldD kR [a, b] "rows" = some b := by
  have e : ¬ (Str.ofString "kinds") = Str.ofString "rows" := by decide
  unfold kR fldD
  rw [if_neg e]
  unfold fldD
  exact if_pos rfl
/-! what repr shows of small data -/
mutual
def smB : D → Bool
  | .int i => decide (i.natAbs < 1000)
  | .non => true
  | .bl _ => true
  | .tup xs => smA xs
  | _ => false
def smA : List D → Bool
  | [] => true
  | d :: ds => smB d && smA ds
end
mutual
def lnB : D → Nat
  | .int i => i.natAbs + 2
  | .non => 4
  | .bl _ => 5
  | .tup xs => lnA xs + 4
  | .lst xs => lnA xs + 4
  | _ => 0
def lnA : List D → Nat
  | [] => 0
  | d :: ds => lnB d + 2 + lnA ds
end
mutual
def dpB : D → Nat
  | .tup xs => dpA xs + 1
  | .lst xs => dpA xs + 1
  | _ => 0
def dpA : List D → Nat
  | [] => 0
  | d :: ds => max (dpB d) (dpA ds)
end
theorem tupText_le (ts : List Str) : (tupleText ts).length ≤ piled ts + 4 := by
  unfold tupleText
  rw [Str.length_append, Str.length_append]
  have h1 : (("(" : Str)).length = 1 := by decide
  have h2 : (Str.ofString (if (ts.length == 1) = true then ",)" else ")")).length ≤ 2 := by split <;> decide
  have h3 : (Str.join ", " ts).length ≤ piled ts := by
    cases ts with
    | nil => decide
    | cons a b =>
      have := join_length_add (a :: b) (by simp)
      omega
  omega
mutual
theorem sm_toP : ∀ d : D, smB d = true → ∃ p, toP d = some p ∧ p.showable = true ∧ p.hasDict = false ∧ p.depth ≤ dpB d ∧ p.shown.length ≤ lnB d
  | .int i, h => by
    have hi : i.natAbs < 1000 := by simpa [smB] using h
    refine ⟨.int i, rfl, ?_, rfl, Nat.le_refl _, ?_⟩
    · have := Nat.log2_le_self i.natAbs
      simp only [PySem.PyData.showable, decide_eq_true_eq]
      omega
    · have := PyProof.Rows.len_str_of_int i
      show (Str.ofString (toString i)).length ≤ i.natAbs + 2
      omega
  | .non, _ => ⟨.none, rfl, rfl, rfl, Nat.le_refl _, by decide⟩
  | .bl b, _ => ⟨.bool b, rfl, rfl, rfl, Nat.le_refl _, by cases b <;> decide⟩
  | .tup xs, h => by
    obtain ⟨ps, e, h1, h2, h3, h4⟩ := sm_toPs xs (by simpa [smB] using h)
    refine ⟨.tuple ps, by simp [toP, e], by simpa [PySem.PyData.showable] using h1, by simpa [PySem.PyData.hasDict] using h2, ?_, ?_⟩
    · show PySem.PyData.depthAll ps + 1 ≤ dpA xs + 1
      omega
    · have z := tupText_le (PySem.PyData.shownAll ps)
      show (tupleText (PySem.PyData.shownAll ps)).length ≤ lnA xs + 4
      omega
  | .lst _, h => by simp [smB] at h
  | .str _, h => by simp [smB] at h
  | .dic _ _, h => by simp [smB] at h
  | .ins _ _ _, h => by simp [smB] at h
  | .exc _ _ _, h => by simp [smB] at h
  | .fnv _, h => by simp [smB] at h
  | .lam _, h => by simp [smB] at h
  | .dit _ _, h => by simp [smB] at h
theorem sm_toPs : ∀ ds : List D, smA ds = true → ∃ ps, toPs ds = some ps ∧ PySem.PyData.showableAll ps = true ∧ PySem.PyData.hasDictAll ps = false ∧ PySem.PyData.depthAll ps ≤ dpA ds ∧ piled (PySem.PyData.shownAll ps) ≤ lnA ds
  | [], _ => ⟨[], rfl, rfl, rfl, Nat.le_refl _, Nat.le_refl _⟩
  | d :: ds, h => by
    simp only [smA, Bool.and_eq_true] at h
    obtain ⟨p, e, h1, h2, h3, h4⟩ := sm_toP d h.1
    obtain ⟨ps, e', g1, g2, g3, g4⟩ := sm_toPs ds h.2
    refine ⟨p :: ps, by simp [toPs, e, e'], by simp [PySem.PyData.showableAll, h1, g1], by simp [PySem.PyData.hasDictAll, h2, g2], ?_, ?_⟩
    · simp only [PySem.PyData.depthAll, dpA]
      omega
    · simp only [PySem.PyData.shownAll, lnA]
      rw [piled_cons]
      omega
end
theorem lnA_le {M : Nat} : ∀ {ds : List D}, (∀ d ∈ ds, lnB d ≤ M) → lnA ds ≤ ds.length * (M + 2)
  | [], _ => Nat.zero_le _
  | d :: ds, h => by
    have h1 := h d List.mem_cons_self
    have h2 := lnA_le (M := M) (ds := ds) fun e he => h e (List.mem_cons_of_mem _ he)
    simp only [lnA, List.length_cons]
    rw [Nat.succ_mul]
    omega
theorem dpA_le {M : Nat} : ∀ {ds : List D}, (∀ d ∈ ds, dpB d ≤ M) → dpA ds ≤ M
  | [], _ => Nat.zero_le _
  | d :: ds, h => by
    have h1 := h d List.mem_cons_self
    have h2 := dpA_le (M := M) (ds := ds) fun e he => h e (List.mem_cons_of_mem _ he)
    simp only [dpA]
    omega
theorem smA_of : ∀ {ds : List D}, (∀ d ∈ ds, smB d = true) → smA ds = true
  | [], _ => rfl
  | d :: ds, h => by simp only [smA, Bool.and_eq_true]; exact ⟨h d List.mem_cons_self, smA_of fun e he => h e (List.mem_cons_of_mem _ he)⟩
/-- a list made by drawing -/
theorem compM_gen {step : D → Nat → (Option D → Nat → Prop) → Prop} {c N : Nat} {good : D → D → Prop} : ∀ (xs : List D) (n : Nat) (P : List D → Nat → Prop), n + c * xs.length ≤ N →
    (∀ x ∈ xs, ∀ (m : Nat) (k : Option D → Nat → Prop), m + c ≤ N → (∀ d m', m' ≤ m + c → good x d → k (some d) m') → step x m k) →
    (∀ (ds : List D) (m' : Nat), m' ≤ n + c * xs.length → ds.length = xs.length → (∀ (i : Nat) (x d : D), xs[i]? = some x → ds[i]? = some d → good x d) → P ds m') → compM step xs n P
  | [], n, P, _, _, h => h [] n (by simp) rfl fun i x d e => by simp at e
  | x :: xs, n, P, hN, hs, h => by
    have e : c * (x :: xs).length = c * xs.length + c := by rw [List.length_cons, Nat.mul_succ]
    rw [e] at hN
    refine hs x List.mem_cons_self n _ (by omega) fun d m' hm hd => ?_
    refine compM_gen xs m' _ (by omega) (fun y hy => hs y (List.mem_cons_of_mem _ hy)) fun ds m2 h2 hl hg => ?_
    refine h (d :: ds) m2 (by rw [e]; omega) (by simp [hl]) fun i y d' e1 e2 => ?_
    cases i with
    | zero =>
      simp at e1 e2
      rw [← e1, ← e2]
      exact hd
    | succ i => exact hg i y d' (by simpa using e1) (by simpa using e2)
theorem rowB_of {ks cs : List D} (hl : cs.length = ks.length) (h : ∀ (i : Nat) (k c : D), ks[i]? = some k → cs[i]? = some c → cellB k c = true) : rowB ks (.tup cs) = true := by
  simp only [rowB, Bool.and_eq_true, decide_eq_true_eq, List.all_eq_true]
  refine ⟨hl, fun p hp => ?_⟩
  obtain ⟨i, hi, rfl⟩ := List.mem_iff_getElem.mp hp
  have e : (ks.zip cs)[i]? = some (ks.zip cs)[i] := List.getElem?_eq_getElem hi
  obtain ⟨e1, e2⟩ := List.getElem?_zip_eq_some.mp e
  exact h i _ _ e1 e2
theorem range_len {m : Nat} : (rangeD 0 (m : Int).toNat).length = m := by simp [rangeD]
theorem range_mem {m : Nat} {x : D} (h : x ∈ rangeD 0 (m : Int).toNat) : ∃ i : Nat, i < m ∧ x = .int (i : Int) := by
  unfold rangeD at h
  rw [Int.toNat_natCast] at h
  obtain ⟨i, hi, rfl⟩ := List.mem_map.mp h
  exact ⟨i, List.mem_range.mp hi, by simp⟩
theorem range_get {m i : Nat} {x : D} (h : (rangeD 0 (m : Int).toNat)[i]? = some x) : i < m ∧ x = .int (i : Int) := by
  unfold rangeD at h
  rw [Int.toNat_natCast, List.getElem?_map] at h
  cases e : (List.range m)[i]? with
  | none => rw [e] at h; cases h
  | some j =>
    rw [e] at h
    obtain ⟨h3, h4⟩ := List.getElem?_eq_some_iff.mp e
    simp at h3 h4
    subst h4
    cases h
    exact ⟨h3, by simp⟩
theorem ix_nat {n j : Nat} (h : j < n) : ixN n (j : Int) = some j := by
  unfold ixN
  rw [if_pos (by omega), if_pos (by omega), Int.toNat_natCast]
theorem upd_upd {H : L2.Hp} {p : Addr} {o u : L2.HO} : L2.upd (L2.upd H p o) p u = L2.upd H p u := by
  funext b
  by_cases h : b = p
  · rw [h, L2.upd_same, L2.upd_same]
  · rw [L2.upd_ne h, L2.upd_ne h, L2.upd_ne h]
def absI (z : Int) : Int := if z < 0 then -z else z
def bigI (ys : List Int) : List Int := (ys.filter fun y => decide ((10 : Int) ^ 18 ≤ y)).map fun y => y - 10 ^ 18
theorem bigI_snoc {ys : List Int} {y : Int} : bigI (ys ++ [y]) = if (10 : Int) ^ 18 ≤ y then bigI ys ++ [y - 10 ^ 18] else bigI ys := by
  unfold bigI
  rw [List.filter_append, List.map_append]
  by_cases h : (10 : Int) ^ 18 ≤ y
  · rw [if_pos h, List.filter_cons_of_pos (by simpa using h)]
    rfl
  · rw [if_neg h, List.filter_cons_of_neg (by simpa using h)]
    simp
/-! ### rows of ints, lots -/
def toI : D → Int
  | .int i => i
  | _ => 0
def intsOf (xs : List D) : List Int := xs.map toI
theorem betw_int {lo hi : Int} {d : D} (h : betw lo hi d = true) : d = .int (toI d) ∧ lo ≤ toI d ∧ toI d ≤ hi := by
  cases d with
  | int i => simpa [betw, toI] using h
  | _ => simp [betw] at h
theorem ints_eq {lo hi : Int} : ∀ {xs : List D}, xs.all (betw lo hi) = true → xs = (intsOf xs).map D.int
  | [], _ => rfl
  | x :: xs, h => by
    simp only [List.all_cons, Bool.and_eq_true] at h
    show x :: xs = D.int (toI x) :: (intsOf xs).map D.int
    rw [← (betw_int h.1).1, ← ints_eq h.2]
theorem intsOf_map {ns : List Int} : intsOf (ns.map D.int) = ns := by
  unfold intsOf
  rw [List.map_map]
  conv => rhs; rw [← List.map_id ns]
  rfl
def risB : List Int → Bool
  | [] => true
  | [_] => true
  | a :: b :: l => decide (a < b) && risB (b :: l)
theorem risB_zip : ∀ {ns : List Int}, ((ns.zip (ns.drop 1)).all fun p => decide (p.1 < p.2)) = risB ns
  | [] => rfl
  | [_] => rfl
  | a :: b :: l => by
    have z := risB_zip (ns := b :: l)
    show (decide (a < b) && (((b :: l).zip ((b :: l).drop 1)).all fun p => decide (p.1 < p.2))) = _
    rw [z]
    rfl
def shortD : D → Bool
  | .tup xs => decide (xs.length ≤ 100)
  | _ => true
theorem cut_from_one {xs : List D} : cutD xs (some 1) none = xs.drop 1 := cut_from (i := 1)
def dicT (ks rs : List D) : D := .dic [.inr "kinds", .inr "rows"] [.tup ks, .tup rs]
theorem zip_ints : ∀ {ns ms : List Int}, zipD (ns.map D.int) (ms.map D.int) = (ns.zip ms).map fun p => D.tup [.int p.1, .int p.2]
  | [], _ => by simp [zipD]
  | _ :: _, [] => by simp [zipD]
  | n :: ns, m :: ms => by
    have z := zip_ints (ns := ns) (ms := ms)
    unfold zipD at z ⊢
    simp only [List.map_cons, List.zip_cons_cons, z]
theorem rising_zip {ns : List Int} : zipD (ns.map D.int) ((ns.map D.int).drop 1) = (ns.zip (ns.drop 1)).map fun p => D.tup [.int p.1, .int p.2] := by
  rw [← List.map_drop, zip_ints]
theorem len0 {xs : List D} : decide ((xs.length : Int) = 0) = xs.isEmpty := by
  cases xs with
  | nil => rfl
  | cons x t =>
    have : ¬ ((x :: t).length : Int) = 0 := by simp only [List.length_cons]; omega
    rw [decide_eq_false this]
    rfl
theorem intsOf_len {xs : List D} : (intsOf xs).length = xs.length := by simp [intsOf]
theorem natsI_mem {m : Nat} {i : Int} (h : 0 ≤ i ∧ i < m) : i ∈ natsI m := by
  unfold natsI
  exact List.mem_map.mpr ⟨i.toNat, List.mem_range.mpr (by omega), by omega⟩
theorem natsI_len {m : Nat} : (natsI m).length = m := by simp [natsI]
theorem nxs_ints {ns : List Int} : nxs (ns.map D.int) = true := nxs_of fun d hd => by
  obtain ⟨i, _, rfl⟩ := List.mem_map.mp hd
  rfl
theorem perm_ints {ys : List D} {k : Nat} (h : ys.Perm (natsD k)) : ys = (intsOf ys).map D.int ∧ (intsOf ys).length = k := by
  have z : ∀ zs : List D, (∀ d ∈ zs, d = .int (toI d)) → zs = (intsOf zs).map D.int := fun zs hz => by
    induction zs with
    | nil => rfl
    | cons a l ih =>
      show a :: l = D.int (toI a) :: (intsOf l).map D.int
      rw [← hz a List.mem_cons_self, ← ih fun d hd => hz d (List.mem_cons_of_mem _ hd)]
  refine ⟨z ys fun d hd => ?_, ?_⟩
  · obtain ⟨i, _, rfl⟩ := List.mem_map.mp (h.subset hd)
    rfl
  · rw [intsOf_len, h.length_eq]
    simp [natsD, natsI_len]
theorem natsD_len {k : Nat} : (natsD k).length = k := by simp [natsD, natsI_len]
/-! ### tables made of tables -/
/-! ### tables told over and over -/
/-! tables of two customs -/
open SCo
theorem getD_at {r : List Int} {m : Nat} (h : m < r.length) : (r.map D.int)[m]? = some (.int (r.getD m 0)) := by
  rw [List.getElem?_map, List.getD_eq_getElem?_getD, List.getElem?_eq_getElem h]
  rfl
def own0 (rss : List (List Int)) (m : Nat) : Int := (rss.headD []).getD m 0
def sharedL (xs ys : List Int) : List Int := xs.filter fun x => ys.any (· == x)
def crossB (xs ys : List Int) : Bool := decide (0 < (sharedL xs ys).length) && decide ((sharedL xs ys).length < min xs.length ys.length)
def inF (ys : List Int) : D → Option D
  | .int x => match ys.any (· == x) with
    | true => some (.int x)
    | false => none
  | _ => none
theorem inF_map {ys : List Int} : ∀ {xs : List Int}, (xs.map D.int).filterMap (inF ys) = (sharedL xs ys).map D.int
  | [] => rfl
  | x :: xs => by
    have ih := inF_map (ys := ys) (xs := xs)
    show ((D.int x) :: xs.map D.int).filterMap (inF ys) = _
    rw [List.filterMap_cons]
    unfold sharedL at ih ⊢
    rw [List.filter_cons]
    cases h : ys.any (· == x) with
    | true =>
      have e : inF ys (.int x) = some (.int x) := by simp only [inF, h]
      rw [e, ih]
      rfl
    | false =>
      have e : inF ys (.int x) = none := by simp only [inF, h]
      rw [e, ih]
      rfl
def tup2 (q : D × D) : D := .tup [q.1, q.2]
def pairsD (xs : List D) : List D := (pairsL xs).map tup2
theorem pairsL_map {α β : Type} {f : α → β} : ∀ {xs : List α}, pairsL (xs.map f) = (pairsL xs).map fun q => (f q.1, f q.2)
  | [] => rfl
  | x :: xs => by
    show (xs.map f).map (fun y => (f x, y)) ++ pairsL (xs.map f) = (xs.map (fun y => (x, y)) ++ pairsL xs).map _
    rw [pairsL_map, List.map_append, List.map_map, List.map_map]
    rfl
theorem all_ints : ∀ {ds : List D}, (∀ d ∈ ds, ∃ i, d = .int i) → ds = (intsOf ds).map D.int
  | [], _ => rfl
  | d :: ds, h => by
    obtain ⟨i, rfl⟩ := h d List.mem_cons_self
    show D.int i :: ds = D.int i :: (intsOf ds).map D.int
    rw [← all_ints fun d hd => h d (List.mem_cons_of_mem _ hd)]
theorem compM_any {step : D → Nat → (Option D → Nat → Prop) → Prop} {good : D → Prop} : ∀ (xs : List D) (n : Nat) (P : List D → Nat → Prop),
    (∀ x ∈ xs, ∀ (k : Option D → Nat → Prop), (∀ o, (∀ d, o = some d → good d) → k o n) → step x n k) → (∀ ds : List D, ds.length ≤ xs.length → (∀ d ∈ ds, good d) → P ds n) → compM step xs n P
  | [], n, P, _, h => h [] (Nat.le_refl _) fun d hd => nomatch hd
  | x :: xs, n, P, hs, h => by
    refine hs x List.mem_cons_self _ fun o ho => ?_
    have rc := fun (P : List D → Nat → Prop) => compM_any (good := good) xs n P fun y hy => hs y (List.mem_cons_of_mem _ hy)
    cases o with
    | none => exact rc _ fun ds hl hg => h ds (Nat.le_succ_of_le hl) hg
    | some d =>
      refine rc _ fun ds hl hg => h (d :: ds) (Nat.succ_le_succ hl) fun e he => ?_
      rcases List.mem_cons.mp he with z | he
      · rw [z]; exact ho d rfl
      · exact hg e he
theorem textFrom_le : ∀ (ts : List Str) (k : Nat) (acc : Str), (textFrom k acc ts).length ≤ acc.length + piled ts
  | [], k, acc => Nat.le_add_right _ _
  | t :: ts, k, acc => by
    have z := textFrom_le ts (k + 1) (acc ++ Str.ofString (if k > 0 then ", " else "") ++ t)
    have h2 : (Str.ofString (if k > 0 then ", " else "")).length ≤ 2 := by split <;> decide
    show (textFrom (k + 1) (acc ++ Str.ofString (if k > 0 then ", " else "") ++ t) ts).length ≤ _
    rw [Str.length_append, Str.length_append] at z
    rw [piled_cons]
    omega
theorem natsD_get {k a : Nat} {x : D} (h : (natsD k)[a]? = some x) : a < k ∧ x = .int (a : Int) := by
  have hl := (List.getElem?_eq_some_iff.mp h).1
  rw [natsD_len] at hl
  refine ⟨hl, ?_⟩
  unfold natsD natsI at h
  rw [List.map_map, List.getElem?_map, List.getElem?_range hl] at h
  exact (Option.some.inj h).symm
/-! trees -/
open SCo
def intsD : D → List Int
  | .tup ds => intsOf ds
  | _ => []
theorem intsD_tup {r : List Int} : intsD (tupI r) = r := intsOf_map
def pairI (t : Int × Int) : D := tupI [t.1, t.2]
def atB (p : Int) (t : Int × Int) : Bool := decide (t.1 = p ∨ t.2 = p)
def atF (p : Int) : D → Option D
  | .tup [.int a, .int b] => match atB p (a, b) with
    | true => some (pairI (a, b))
    | false => none
  | _ => none
theorem atF_map {p : Int} : ∀ {ts : List (Int × Int)}, (ts.map pairI).filterMap (atF p) = (ts.filter (atB p)).map pairI
  | [] => rfl
  | t :: ts => by
    have ih := atF_map (p := p) (ts := ts)
    rw [List.map_cons, List.filterMap_cons, List.filter_cons]
    cases h : atB p t with
    | true =>
      have e : atF p (pairI t) = some (pairI t) := by
        show (match atB p (t.1, t.2) with | true => some (pairI (t.1, t.2)) | false => none) = _
        rw [h]
      rw [e, ih]
      rfl
    | false =>
      have e : atF p (pairI t) = none := by
        show (match atB p (t.1, t.2) with | true => some (pairI (t.1, t.2)) | false => none) = _
        rw [h]
      rw [e, ih]
      rfl
def keyI (i : Int) : Key := .inl i
/-- what steps_to has found: places in turn, and the next one on the way of each -/
structure StepI (ts : List (Int × Int)) (goal : Int) (ks vs stack : List Int) : Prop where
  nd : ks.Nodup
  ln : vs.length = ks.length
  hd : ks[0]? = some goal
  hv : vs[0]? = some goal
  rng : ∀ k ∈ ks, 0 ≤ k ∧ k ≤ (ts.length : Int)
  sub : ∀ s ∈ stack, s ∈ ks
  snd : stack.Nodup
  back : ∀ (i : Nat) (k v : Int), 1 ≤ i → ks[i]? = some k → vs[i]? = some v → ((k, v) ∈ ts ∨ (v, k) ∈ ts) ∧ ∃ j : Nat, j < i ∧ ks[j]? = some v
theorem nlenT {α : Type} [DecidableEq α] : ∀ {l m : List α}, l.Nodup → (∀ x ∈ l, x ∈ m) → l.length ≤ m.length
  | [], _, _, _ => Nat.zero_le _
  | a :: l, m, h, g => by
    obtain ⟨h1, h2⟩ := List.nodup_cons.mp h
    have z := nlenT (l := l) (m := m.erase a) h2 fun x hx => (List.mem_erase_of_ne (fun e => h1 (by rw [← e]; exact hx))).mpr (g x (List.mem_cons_of_mem _ hx))
    rw [List.length_erase_of_mem (g a List.mem_cons_self)] at z
    have := List.length_pos_of_mem (g a List.mem_cons_self)
    simp only [List.length_cons]
    omega
def upTo (n : Nat) : List Int := (List.range (n + 1)).map Int.ofNat
theorem upTo_mem {n : Nat} {k : Int} : k ∈ upTo n ↔ 0 ≤ k ∧ k ≤ (n : Int) := by
  unfold upTo
  rw [List.mem_map]
  constructor
  · rintro ⟨i, hi, rfl⟩
    have := List.mem_range.mp hi
    exact ⟨Int.natCast_nonneg i, by show (i : Int) ≤ n; omega⟩
  · rintro ⟨h0, h1⟩
    exact ⟨k.toNat, List.mem_range.mpr (by omega), Int.toNat_of_nonneg h0⟩
theorem upTo_len {n : Nat} : (upTo n).length = n + 1 := by unfold upTo; rw [List.length_map, List.length_range]
theorem StepI.few {ts : List (Int × Int)} {goal : Int} {ks vs st : List Int} (h : StepI ts goal ks vs st) : ks.length ≤ ts.length + 1 := by
  have z := nlenT h.nd (m := upTo ts.length) fun k hk => upTo_mem.mpr (h.rng k hk)
  rw [upTo_len] at z
  exact z
/-- all is done for the places that are neither in the stack nor among these -/
def DoneI (ts : List (Int × Int)) (ks st ex : List Int) : Prop := ∀ k ∈ ks, k ∉ st → k ∉ ex → ∀ t ∈ ts, (t.1 = k → t.2 ∈ ks) ∧ (t.2 = k → t.1 ∈ ks)
theorem doneI_add {ts : List (Int × Int)} {ks st ex : List Int} {f : Int} (h : DoneI ts ks st ex) : DoneI ts (ks ++ [f]) (st ++ [f]) ex := fun k hk hs hx t ht => by
  have hf : k ≠ f := fun e => hs (List.mem_append_right _ (List.mem_singleton.mpr e))
  have hk' : k ∈ ks := (List.mem_append.mp hk).resolve_right fun z => hf (List.mem_singleton.mp z)
  obtain ⟨a, b⟩ := h k hk' (fun z => hs (List.mem_append_left _ z)) hx t ht
  exact ⟨fun e => List.mem_append_left _ (a e), fun e => List.mem_append_left _ (b e)⟩
theorem keys_in {k : Int} {ks : List Int} : keyIn (keyI k) (ks.map keyI) = decide (k ∈ ks) := by
  by_cases h : k ∈ ks
  · rw [decide_eq_true h]
    exact keyIn_mem.mpr (List.mem_map_of_mem h)
  · rw [decide_eq_false h, Bool.eq_false_iff]
    intro z
    obtain ⟨j, hj, e⟩ := List.mem_map.mp (keyIn_mem.mp z)
    cases e
    exact h hj
/-! judging ties and seats -/
def risL (nss : List (List Int)) : Bool := (nss.zip (nss.drop 1)).all fun p => ltI p.1 p.2
def ltF : D → D
  | .tup [.int a, .int b] => .bl (decide (a < b))
  | .tup [.tup xs, .tup ys] => .bl (ltI (intsOf xs) (intsOf ys))
  | _ => .non
theorem zipT_map {nss : List (List Int)} : ∀ {mss : List (List Int)}, zipD (nss.map tupI) (mss.map tupI) = (nss.zip mss).map fun p => .tup [tupI p.1, tupI p.2] := by
  intro mss
  unfold zipD
  rw [List.zip_map, List.map_map]
  rfl
def lotB2 (lo hi : Int) : D → Bool
  | .tup xs => !xs.isEmpty && xs.all (betw lo hi) && risB (intsOf xs)
  | _ => false
/-! the normal tree of a family of lots -/
structure Fam (many : Nat) (ls : List (List Int)) : Prop where
  ne : ∀ l ∈ ls, l ≠ []
  nd : ls.Nodup
  el : ∀ l ∈ ls, l.Pairwise (· < ·) ∧ ∀ v ∈ l, 1 ≤ v ∧ v < (many : Int)
  lam : ∀ a ∈ ls, ∀ b ∈ ls, (∀ v, v ∈ a → v ∉ b) ∨ (∀ v ∈ a, v ∈ b) ∨ (∀ v ∈ b, v ∈ a)
  ln : ls.length ≤ 21
theorem sub_all {a b : List Int} (ha : a.Pairwise (· < ·)) (hb : b.Pairwise (· < ·)) (h : ∀ v ∈ a, v ∈ b) (hl : b.length ≤ a.length) : a = b := by
  have na : a.Nodup := ha.imp fun h => by omega
  have nb : b.Nodup := hb.imp fun h => by omega
  have g : ∀ v ∈ b, v ∈ a := fun v hv => by
    refine Classical.byContradiction fun hn => ?_
    have z := nlenT na (m := b.erase v) fun x hx => (List.mem_erase_of_ne (fun e => hn (by rw [← e]; exact hx))).mpr (h x hx)
    rw [List.length_erase_of_mem hv] at z
    have := List.length_pos_of_mem hv
    omega
  have hp : a.Perm b := (List.perm_ext_iff_of_nodup na nb).mpr fun v => ⟨h v, g v⟩
  exact List.Perm.eq_of_pairwise (le := fun x y : Int => x < y) (fun x y _ _ h1 h2 => by omega) ha hb hp
theorem Fam.lt {many : Nat} {ls : List (List Int)} (f : Fam many ls) {a b : List Int} (ha : a ∈ ls) (hb : b ∈ ls) (h : ∀ v ∈ a, v ∈ b) (hne : a ≠ b) : a.length < b.length := by
  refine Classical.byContradiction fun hn => hne (sub_all (f.el a ha).1 (f.el b hb).1 h (by omega))
/-! partings judged -/
/-- not long, nor any part of it -/
def short2 : D → Bool
  | .tup xs => decide (xs.length ≤ 50) && xs.all shortD
  | .lst xs => decide (xs.length ≤ 50)
  | _ => true
theorem pairsL_mem {α : Type} : ∀ {ls : List α} {x y : α}, (x, y) ∈ pairsL ls ↔ ∃ a b : Nat, a < b ∧ ls[a]? = some x ∧ ls[b]? = some y
  | [], x, y => by simp [pairsL]
  | z :: ls, x, y => by
    show (x, y) ∈ ls.map (fun w => (z, w)) ++ pairsL ls ↔ _
    rw [List.mem_append, List.mem_map, pairsL_mem (ls := ls)]
    constructor
    · rintro (⟨w, hw, e⟩ | ⟨a, b, hab, hx, hy⟩)
      · cases e
        obtain ⟨b, hb⟩ := List.mem_iff_getElem?.mp hw
        exact ⟨0, b + 1, by omega, rfl, by simpa using hb⟩
      · exact ⟨a + 1, b + 1, by omega, by simpa using hx, by simpa using hy⟩
    · rintro ⟨a, b, hab, hx, hy⟩
      cases b with
      | zero => omega
      | succ b =>
        have hy' : ls[b]? = some y := by simpa using hy
        cases a with
        | zero =>
          have hx' : z = x := by simpa using hx
          exact .inl ⟨y, List.mem_of_getElem? hy', by rw [hx']⟩
        | succ a => exact .inr ⟨a, b, by omega, by simpa using hx, hy'⟩
def natD (k : Nat) : D := .int ((k : Nat) : Int)
theorem any_notIn {ys : List Int} {v : Int} : (!ys.any fun x => x == v) = !decide (v ∈ ys) := by
  congr 1
  by_cases h : v ∈ ys
  · rw [decide_eq_true h, List.any_eq_true]
    exact ⟨v, h, by simp⟩
  · rw [decide_eq_false h, List.any_eq_false]
    intro x hx he
    have : x = v := by simpa using he
    exact h (by rw [← this]; exact hx)
theorem any_in {ys : List Int} {v : Int} : (ys.any fun x => x == v) = decide (v ∈ ys) := by
  have z := any_notIn (ys := ys) (v := v)
  cases e : (ys.any fun x => x == v) <;> cases e2 : decide (v ∈ ys) <;> simp_all
theorem risL_of : ∀ {nss : List (List Int)}, nss.Pairwise (· < ·) → risL nss = true
  | [], _ => rfl
  | [_], _ => rfl
  | a :: b :: l, h => by
    obtain ⟨h1, h2⟩ := List.pairwise_cons.mp h
    have z := risL_of h2
    have e : risL (a :: b :: l) = (SCo.ltI a b && risL (b :: l)) := rfl
    rw [e, z, Bool.and_true]
    exact decide_eq_true (h1 b List.mem_cons_self)
theorem rangeA_len {a : Int} {k : Nat} : (rangeD a k).length = k := by
  simp [rangeD]
/-! drawn families -/
def Dj (a b : List Int) : Prop := ∀ v, v ∈ a → v ∉ b
theorem Dj.symm {a b : List Int} (h : Dj a b) : Dj b a := fun v hb ha => h v ha hb
theorem risB_of : ∀ {ns : List Int}, ns.Pairwise (· < ·) → risB ns = true
  | [], _ => rfl
  | [_], _ => rfl
  | a :: b :: l, h => by
    rw [List.pairwise_cons] at h
    have h1 := h.1 b List.mem_cons_self
    have h2 := risB_of h.2
    simp only [risB, Bool.and_eq_true, decide_eq_true_eq]
    exact ⟨h1, h2⟩
/-! tables with every cell read, drawn -/
structure RowF (ks r : List Int) : Prop where
  len : r.length = ks.length
  c : ∀ (m : Nat) (k c : Int), ks[m]? = some k → r[m]? = some c → 0 ≤ c ∧ c < k
structure Full (ks : List Int) (rss : List (List Int)) : Prop where
  kl : 1 ≤ ks.length ∧ ks.length ≤ 8
  kb : ∀ k ∈ ks, 1 ≤ k ∧ k ≤ 6
  rl : 1 ≤ rss.length ∧ rss.length ≤ 12
  rf : ∀ r ∈ rss, RowF ks r
structure Fresh1 (ks fr : List Int) : Prop where
  len : fr.length = ks.length
  c : ∀ (m : Nat) (k f : Int), ks[m]? = some k → fr[m]? = some f → 1 ≤ f ∧ f ≤ k
theorem RowF.set {ks r : List Int} (h : RowF ks r) {m : Nat} {k v : Int} (hk : ks[m]? = some k) (h0 : 0 ≤ v) (h1 : v < k) : RowF ks (r.set m v) := by
  refine ⟨by rw [List.length_set]; exact h.len, fun i k' c e1 e2 => ?_⟩
  by_cases z : m = i
  · subst z
    rw [hk] at e1
    have hl : m < r.length := by
      have := (List.getElem?_eq_some_iff.mp e2).1
      rwa [List.length_set] at this
    rw [List.getElem?_set_self hl] at e2
    rw [← Option.some.inj e1, ← Option.some.inj e2]
    exact ⟨h0, h1⟩
  · rw [List.getElem?_set_ne z] at e2
    exact h.c i k' c e1 e2
theorem Fresh1.step {ks fr : List Int} (h : Fresh1 ks fr) {m : Nat} {k f : Int} (hk : ks[m]? = some k) (hf : fr[m]? = some f) (hlt : f < k) : Fresh1 ks (fr.set m (f + 1)) := by
  refine ⟨by rw [List.length_set]; exact h.len, fun i k' c e1 e2 => ?_⟩
  by_cases z : m = i
  · subst z
    rw [hk] at e1
    have hl := (List.getElem?_eq_some_iff.mp hf).1
    rw [List.getElem?_set_self hl] at e2
    rw [← Option.some.inj e1, ← Option.some.inj e2]
    have := h.c m k f hk hf
    omega
  · rw [List.getElem?_set_ne z] at e2
    exact h.c i k' c e1 e2
theorem rowF_zero {ks : List Int} (kb : ∀ k ∈ ks, 1 ≤ k ∧ k ≤ 6) : RowF ks (List.replicate ks.length 0) := by
  refine ⟨List.length_replicate, fun m k c e1 e2 => ?_⟩
  have e := List.mem_of_getElem? e2
  rw [(List.mem_replicate.mp e).2]
  have := kb k (List.mem_of_getElem? e1)
  omega
theorem fresh_one {ks : List Int} (kb : ∀ k ∈ ks, 1 ≤ k ∧ k ≤ 6) : Fresh1 ks (List.replicate ks.length 1) := by
  refine ⟨List.length_replicate, fun m k c e1 e2 => ?_⟩
  have e := List.mem_of_getElem? e2
  rw [(List.mem_replicate.mp e).2]
  have := kb k (List.mem_of_getElem? e1)
  omega
theorem rep_one (c : Nat) (d : D) : (List.replicate c [d]).flatten = List.replicate c d := by
  induction c with
  | zero => rfl
  | succ c ih => rw [List.replicate_succ, List.flatten_cons, ih, List.replicate_succ]; rfl
theorem put_at {α : Type} {xs : List α} {i : Nat} {d : α} (h : i < xs.length) : xs.take i ++ [d] ++ xs.drop (i + 1) = xs.set i d := by
  rw [List.set_eq_take_append_cons_drop, if_pos h, List.append_assoc]
  rfl
theorem full_way {G Q : Prop} (use : Q → G) (tail : Q) : G := use tail
theorem perm_tups {ys : List D} {rss : List (List Int)} (h : ys.Perm (rss.map tupI)) : ∃ rs : List (List Int), ys = rs.map tupI ∧ rs.length = rss.length ∧ ∀ r ∈ rs, r ∈ rss := by
  have hy : ∀ y ∈ ys, ∃ r ∈ rss, y = tupI r := fun y hy => by
    obtain ⟨r, hr, e⟩ := List.mem_map.mp (h.mem_iff.mp hy)
    exact ⟨r, hr, e.symm⟩
  refine ⟨ys.map intsD, ?_, by rw [List.length_map, h.length_eq, List.length_map], fun r hr => ?_⟩
  · rw [List.map_map]
    refine ((List.map_congr_left fun y hm => ?_).trans (List.map_id ys)).symm
    obtain ⟨r, _, rfl⟩ := hy y hm
    show tupI (intsD (tupI r)) = tupI r
    rw [intsD_tup]
  · obtain ⟨y, hm, rfl⟩ := List.mem_map.mp hr
    obtain ⟨r, hr2, rfl⟩ := hy y hm
    rw [intsD_tup]
    exact hr2
theorem natsD_mem {k : Nat} {d : D} (h : d ∈ natsD k) : ∃ j : Nat, j < k ∧ d = .int (j : Int) := by
  obtain ⟨i, hi⟩ := List.mem_iff_getElem?.mp h
  exact ⟨i, natsD_get hi⟩
theorem mixed_nats {ys : List D} {k : Nat} (h : ys.Perm (natsD k)) : ∃ os : List Int, ys = os.map D.int ∧ os.length = k ∧ ∀ v ∈ os, 0 ≤ v ∧ v < (k : Int) := by
  obtain ⟨e, l⟩ := perm_ints h
  refine ⟨intsOf ys, e, l, fun v hv => ?_⟩
  have hm : D.int v ∈ ys := by rw [e]; exact List.mem_map_of_mem hv
  obtain ⟨j, hj, e2⟩ := natsD_mem (h.mem_iff.mp hm)
  have := D.int.inj e2
  omega
def OrdK (x d : D) : Prop := ∃ (k : Int) (os : List Int), x = .int k ∧ d = .lst (os.map D.int) ∧ os.length = k.toNat ∧ ∀ v ∈ os, 0 ≤ v ∧ v < k
def OrdV (z d : D) : Prop := ∃ (os : List Int) (i v : Int), z = .tup [.lst (os.map D.int), .int i] ∧ d = .int v ∧ v ∈ os
theorem told_row {ks r : List Int} {ds es : List D} (hdl : ds.length = ks.length) (hd : ∀ (i : Nat) (x d : D), (ks.map D.int)[i]? = some x → ds[i]? = some d → OrdK x d) (hr : RowF ks r) (hel : es.length = (zipD ds (r.map D.int)).length)
    (he : ∀ (i : Nat) (x d : D), (zipD ds (r.map D.int))[i]? = some x → es[i]? = some d → OrdV x d) : ∃ r' : List Int, es = r'.map D.int ∧ RowF ks r' := by
  have zl : (zipD ds (r.map D.int)).length = ks.length := by
    unfold zipD
    rw [List.length_map, List.length_zip, List.length_map, hdl, hr.len]
    omega
  have ev : ∀ (i : Nat) (d : D), es[i]? = some d → ∃ k v, ks[i]? = some k ∧ d = .int v ∧ 0 ≤ v ∧ v < k := fun i d e => by
    have hi : i < ks.length := by rw [← zl, ← hel]; exact (List.getElem?_eq_some_iff.mp e).1
    obtain ⟨os, j, v, e1, e2, hm⟩ := he i _ d (List.getElem?_eq_getElem (by rw [zl]; exact hi)) e
    have ez := List.getElem?_eq_getElem (l := zipD ds (r.map D.int)) (i := i) (by rw [zl]; exact hi)
    rw [e1] at ez
    obtain ⟨o, it, eo, ei, e3⟩ := zipD_get ez
    have hk : (ks.map D.int)[i]? = some (.int ks[i]) := by rw [List.getElem?_map, List.getElem?_eq_getElem hi]; rfl
    obtain ⟨k, os', ek, eo', _, hb⟩ := hd i _ o hk eo
    have e4 : D.lst (os.map D.int) = o := by
      have := D.tup.inj e3
      simp at this
      exact this.1
    rw [← e4] at eo'
    have e5 : os = os' := by
      have := D.lst.inj eo'
      have := congrArg intsOf this
      rwa [intsOf_map, intsOf_map] at this
    rw [e5] at hm
    have := hb v hm
    exact ⟨ks[i], v, List.getElem?_eq_getElem hi, e2, this.1, by rw [D.int.inj ek]; exact this.2⟩
  have hin : es = (intsOf es).map D.int := all_ints fun d hd => by
    obtain ⟨i, hi⟩ := List.mem_iff_getElem?.mp hd
    obtain ⟨k, v, _, e, _⟩ := ev i d hi
    exact ⟨v, e⟩
  refine ⟨intsOf es, hin, ?_, fun m k c e1 e2 => ?_⟩
  · rw [intsOf_len, hel, zl]
  · have e3 : es[m]? = some (.int c) := by rw [hin, List.getElem?_map, e2]; rfl
    obtain ⟨k', v, h1, h2, h3⟩ := ev m _ e3
    rw [e1] at h1
    rw [Option.some.inj h1, D.int.inj h2]
    exact h3
theorem rowsF_of {ks : List Int} {xs es : List D} (h : ∀ (i : Nat) (x d : D), xs[i]? = some x → es[i]? = some d → ∃ r, d = tupI r ∧ RowF ks r) (hl : es.length = xs.length) : ∃ rs : List (List Int), es = rs.map tupI ∧ ∀ r ∈ rs, RowF ks r := by
  have hy : ∀ y ∈ es, ∃ r, y = tupI r ∧ RowF ks r := fun y hy => by
    obtain ⟨i, hi⟩ := List.mem_iff_getElem?.mp hy
    have := (List.getElem?_eq_some_iff.mp hi).1
    exact h i _ y (List.getElem?_eq_getElem (by omega)) hi
  refine ⟨es.map intsD, ?_, fun r hr => ?_⟩
  · rw [List.map_map]
    refine ((List.map_congr_left fun y hm => ?_).trans (List.map_id es)).symm
    obtain ⟨r, rfl, _⟩ := hy y hm
    show tupI (intsD (tupI r)) = tupI r
    rw [intsD_tup]
  · obtain ⟨y, hm, rfl⟩ := List.mem_map.mp hr
    obtain ⟨r, rfl, hr2⟩ := hy y hm
    rw [intsD_tup]
    exact hr2
theorem row_of {ks : List Int} {es : List D} (ev : ∀ (i : Nat) (d : D), es[i]? = some d → ∃ k v, ks[i]? = some k ∧ d = .int v ∧ 0 ≤ v ∧ v < k) (hl : es.length = ks.length) : ∃ r : List Int, es = r.map D.int ∧ RowF ks r := by
  have hin : es = (intsOf es).map D.int := all_ints fun d hd => by
    obtain ⟨i, hi⟩ := List.mem_iff_getElem?.mp hd
    obtain ⟨k, v, _, e, _⟩ := ev i d hi
    exact ⟨v, e⟩
  refine ⟨intsOf es, hin, by rw [intsOf_len, hl], fun m k c e1 e2 => ?_⟩
  have e3 : es[m]? = some (.int c) := by rw [hin, List.getElem?_map, e2]; rfl
  obtain ⟨k', v, h1, h2, h3⟩ := ev m _ e3
  rw [e1] at h1
  rw [Option.some.inj h1, D.int.inj h2]
  exact h3
theorem Full.put {ks : List Int} {rs : List (List Int)} (t : Full ks rs) {a : Nat} {r : List Int} (hr : RowF ks r) : Full ks (rs.set a r) :=
  ⟨t.kl, t.kb, by rw [List.length_set]; exact t.rl, fun x hx => (List.mem_or_eq_of_mem_set hx).elim (t.rf x) fun e => by rw [e]; exact hr⟩
theorem two_items {α : Type} {ys : List α} (h : 2 ≤ ys.length) : ∃ a b r, ys = a :: b :: r := by
  match ys, h with
  | a :: b :: r, _ => exact ⟨a, b, r, rfl⟩
theorem compM_few {step : D → Nat → (Option D → Nat → Prop) → Prop} {good : D → Prop} : ∀ (xs : List D) (n : Nat) (P : List D → Nat → Prop),
    (∀ x ∈ xs, ∀ (k : Option D → Nat → Prop), (∀ o, (∀ d, o = some d → good d) → k o n) → step x n k) → (∀ ds : List D, ds.length ≤ xs.length → (∀ d ∈ ds, good d) → P ds n) → compM step xs n P := compM_any
theorem picks_of {sv : List Int} {xs es : List D} (h : ∀ (i : Nat) (x d : D), xs[i]? = some x → es[i]? = some d → d ∈ sv.map D.int) (hl : es.length = xs.length) : ∃ ks : List Int, es = ks.map D.int ∧ ∀ k ∈ ks, k ∈ sv := by
  have hy : ∀ y ∈ es, y ∈ sv.map D.int := fun y hy => by
    obtain ⟨i, hi⟩ := List.mem_iff_getElem?.mp hy
    have := (List.getElem?_eq_some_iff.mp hi).1
    exact h i _ y (List.getElem?_eq_getElem (by omega)) hi
  have hin : es = (intsOf es).map D.int := all_ints fun d hd => by
    obtain ⟨v, _, e⟩ := List.mem_map.mp (hy d hd)
    exact ⟨v, e.symm⟩
  refine ⟨intsOf es, hin, fun k hk => ?_⟩
  have hm : D.int k ∈ es := by rw [hin]; exact List.mem_map_of_mem hk
  obtain ⟨v, hv, e⟩ := List.mem_map.mp (hy _ hm)
  rw [← D.int.inj e]
  exact hv
abbrev NotIns (d : D) : Prop := ∀ C ns ds, d ≠ .ins C ns ds
/-- a lambda that says whether it is an instance of C -/
def ChkIs (K : PySem.W.Frag) (LD : LamP) (F : FV) (C : Addr) : Prop := ∃ G, LD F G ∧ ∀ x n P XP, (bareD x ∧ ∃ b, PySem.W.kitOne K (tyD x) (.ref C) = some b ∧ P (.bl b) n) → G x n P XP
/-- a row with cells read or not -/
def RowN (ks : List Int) (r : List D) : Prop := r.length = ks.length ∧ ∀ (m : Nat) (k : Int) (d : D), ks[m]? = some k → r[m]? = some d → d = .non ∨ ∃ c, d = .int c ∧ 0 ≤ c ∧ c < k
/-- rows of which one has a cell that is not read -/
structure NoneT (ks : List Int) (rs : List (List D)) : Prop where
  kl : 1 ≤ ks.length ∧ ks.length ≤ 8
  kb : ∀ k ∈ ks, 1 ≤ k ∧ k ≤ 6
  rl : 1 ≤ rs.length ∧ rs.length ≤ 12
  rn : ∀ r ∈ rs, RowN ks r
  non : ∃ r ∈ rs, D.non ∈ r
theorem kinds_ok {ks : List Int} (kl : 1 ≤ ks.length ∧ ks.length ≤ 8) (kb : ∀ k ∈ ks, 1 ≤ k ∧ k ≤ 6) : kindsB (.tup (ks.map D.int)) = true := by
  simp only [kindsB, Bool.and_eq_true, decide_eq_true_eq, List.length_map, List.all_eq_true]
  refine ⟨by omega, fun d hd => ?_⟩
  obtain ⟨k, hk, rfl⟩ := List.mem_map.mp hd
  have z := kb k hk
  simp only [betw, Bool.and_eq_true, decide_eq_true_eq]
  omega
theorem none_rows {ks : List Int} {rs : List (List D)} (rl : 1 ≤ rs.length ∧ rs.length ≤ 12) (rn : ∀ r ∈ rs, RowN ks r) (hc : ∀ j, j < ks.length → ∃ r ∈ rs, ∃ c, r[j]? = some (.int c)) : rowsB (ks.map D.int) (.tup (rs.map D.tup)) = true := by
  have hr : ∀ d ∈ rs.map D.tup, rowB (ks.map D.int) d = true := fun d hd => by
    obtain ⟨r, hr, rfl⟩ := List.mem_map.mp hd
    have q := rn r hr
    refine rowB_of (by rw [List.length_map]; exact q.1) fun i k c e1 e2 => ?_
    rw [List.getElem?_map] at e1
    obtain ⟨k, e3, rfl⟩ := Option.map_eq_some_iff.mp e1
    rcases q.2 i k c e3 e2 with rfl | ⟨v, rfl, v0, v1⟩
    · rfl
    · simp only [cellB, Bool.and_eq_true, decide_eq_true_eq]
      omega
  have hf : firstU (ks.map D.int).length (rs.map D.tup) = none := firstU_none fun j hj => by
    rw [List.length_map] at hj
    obtain ⟨r, hr, c, e⟩ := hc j hj
    unfold colU
    refine Bool.eq_false_iff.mpr fun z => ?_
    have y := List.all_eq_true.mp z (.tup r) (List.mem_map_of_mem hr)
    have w : atN (.tup r) j = .int c := by
      show r.getD j .non = _
      rw [List.getD_eq_getElem?_getD, e]
      rfl
    rw [w] at y
    cases y
  simp only [rowsB, Bool.and_eq_true, decide_eq_true_eq, List.all_eq_true]
  rw [hf, List.length_map]
  exact ⟨⟨⟨by omega, by omega⟩, hr⟩, rfl⟩
theorem rowN_of {ks r : List Int} (h : RowF ks r) : RowN ks (r.map D.int) := ⟨by rw [List.length_map]; exact h.len, fun m k d e1 e2 => by
  rw [List.getElem?_map] at e2
  obtain ⟨c, e3, rfl⟩ := Option.map_eq_some_iff.mp e2
  exact .inr ⟨c, rfl, h.c m k c e1 e3⟩⟩
theorem rowN_non {ks : List Int} {r : List D} (h : RowN ks r) {s : Nat} : RowN ks (r.set s .non) := by
  refine ⟨by rw [List.length_set]; exact h.1, fun m k d e1 e2 => ?_⟩
  by_cases z : s = m
  · subst z
    have hl : s < r.length := by
      have := (List.getElem?_eq_some_iff.mp e2).1
      rwa [List.length_set] at this
    rw [List.getElem?_set_self hl] at e2
    exact .inl (Option.some.inj e2).symm
  · rw [List.getElem?_set_ne z] at e2
    exact h.2 m k d e1 e2
theorem rowN_nx {ks : List Int} {r : List D} (h : RowN ks r) : nxs r = true := nxs_of fun d hd => by
  obtain ⟨i, hi⟩ := List.mem_iff_getElem?.mp hd
  have hl : i < ks.length := by rw [← h.1]; exact (List.getElem?_eq_some_iff.mp hi).1
  rcases h.2 i _ d (List.getElem?_eq_getElem hl) hi with rfl | ⟨c, rfl, _⟩ <;> rfl
theorem rowsN_nx {ks : List Int} {rs : List (List D)} (h : ∀ r ∈ rs, RowN ks r) : nxs (rs.map D.tup) = true := nxs_of fun d hd => by
  obtain ⟨r, hr, rfl⟩ := List.mem_map.mp hd
  exact rowN_nx (h r hr)
theorem tab_nx {C : Addr} {ks : List Int} {rs : List D} (h : nxs rs = true) : nx (tabD C (ks.map D.int) rs) = true := by
  show (nxs (ks.map D.int) && (nxs rs && true)) = true
  rw [h, show nxs (ks.map D.int) = true from nxs_ints]
  rfl
theorem full_rows {ks : List Int} {rss : List (List Int)} (t : Full ks rss) : rowsB (ks.map D.int) (.tup (rss.map tupI)) = true := by
  have e : rss.map tupI = (rss.map fun r => r.map D.int).map D.tup := by rw [List.map_map]; rfl
  rw [e]
  refine none_rows (by rw [List.length_map]; exact t.rl) (fun r hr => ?_) fun j hj => ?_
  · obtain ⟨q, hq, rfl⟩ := List.mem_map.mp hr
    exact rowN_of (t.rf q hq)
  · have rl := t.rl
    have h0 : 0 < rss.length := by omega
    have hr := t.rf _ (List.getElem_mem h0)
    refine ⟨_, List.mem_map_of_mem (List.getElem_mem h0), rss[0][j]'(by rw [hr.len]; exact hj), ?_⟩
    rw [List.getElem?_map, List.getElem?_eq_getElem (by rw [hr.len]; exact hj)]
    rfl
def notNonAt (s : Nat) (x : D) : Bool := !DL.isNon (atN x s)
theorem not_all {α : Type} {p : α → Bool} : ∀ {l : List α}, (l.all fun x => !p x) = false → ∃ x ∈ l, p x = true
  | [], h => by cases h
  | a :: l, h => by
    rw [List.all_cons] at h
    cases e : p a with
    | true => exact ⟨a, List.mem_cons_self, e⟩
    | false =>
      rw [e] at h
      obtain ⟨x, hx, hp⟩ := not_all (by simpa using h)
      exact ⟨x, List.mem_cons_of_mem _ hx, hp⟩
def cellQ : D → PySem.PyData
  | .int i => .int i
  | _ => .none
def nonIn : D → Bool
  | .tup xs => xs.any DL.isNon
  | _ => false
theorem rowN_toP {ks : List Int} {r : List D} (h : RowN ks r) : toP (.tup r) = some (.tuple (r.map cellQ)) ∧ SeqAt.shaped (.tuple (r.map cellQ)) = true ∧ ((r.map cellQ).any fun z => z.eqv .none) = nonIn (.tup r) := by
  have hd : ∀ d ∈ r, d = .non ∨ ∃ c, d = .int c := fun d hd => by
    obtain ⟨i, hi⟩ := List.mem_iff_getElem?.mp hd
    have hl : i < ks.length := by rw [← h.1]; exact (List.getElem?_eq_some_iff.mp hi).1
    rcases h.2 i _ d (List.getElem?_eq_getElem hl) hi with e | ⟨c, e, _⟩
    · exact .inl e
    · exact .inr ⟨c, e⟩
  clear h
  have main : toPs r = some (r.map cellQ) ∧ PySem.PyData.canLayAll0 (r.map cellQ) = true ∧ PySem.PyData.depthAll (r.map cellQ) = 0 ∧ ((r.map cellQ).any fun z => z.eqv .none) = r.any DL.isNon := by
    induction r with
    | nil => exact ⟨rfl, by simp [PySem.PyData.canLayAll0], by simp [PySem.PyData.depthAll], rfl⟩
    | cons d r ih =>
      obtain ⟨i1, i2, i3, i4⟩ := ih fun x hx => hd x (List.mem_cons_of_mem _ hx)
      rcases hd d List.mem_cons_self with rfl | ⟨c, rfl⟩
      · refine ⟨?_, ?_, ?_, ?_⟩
        · show (match toP D.non, toPs r with | some p, some ps => some (p :: ps) | _, _ => none) = _
          rw [i1]
          rfl
        · simp [cellQ, PySem.PyData.canLayAll0, PySem.PyData.canLay0, i2]
        · simp [cellQ, PySem.PyData.depthAll, PySem.PyData.depth, i3]
        · rw [List.map_cons, List.any_cons, List.any_cons, i4]
          rfl
      · refine ⟨?_, ?_, ?_, ?_⟩
        · show (match toP (D.int c), toPs r with | some p, some ps => some (p :: ps) | _, _ => none) = _
          rw [i1]
          rfl
        · simp [cellQ, PySem.PyData.canLayAll0, PySem.PyData.canLay0, i2]
        · simp [cellQ, PySem.PyData.depthAll, PySem.PyData.depth, i3]
        · rw [List.map_cons, List.any_cons, List.any_cons, i4]
          rfl
  obtain ⟨m1, m2, m3, m4⟩ := main
  refine ⟨?_, ?_, m4⟩
  · show (toPs r).map PySem.PyData.tuple = _
    rw [m1]
    rfl
  · unfold SeqAt.shaped
    simp [PySem.PyData.canLay0, m2, PySem.PyData.depth, m3]
/-- the used customs of a matter, ascending -/
def usedL (rss : List (List Int)) (m : Nat) : List Int := ((List.range 6).map Int.ofNat).filter fun c => decide (∃ r ∈ rss, r.getD m 0 = c)
theorem asc_same : ∀ {a b : List Int}, a.Pairwise (· < ·) → b.Pairwise (· < ·) → (∀ v, v ∈ a ↔ v ∈ b) → a = b
  | [], [], _, _, _ => rfl
  | [], y :: b, _, _, h => absurd ((h y).mpr List.mem_cons_self) (by simp)
  | x :: a, [], _, _, h => absurd ((h x).mp List.mem_cons_self) (by simp)
  | x :: a, y :: b, ha, hb, h => by
    have a1 := List.pairwise_cons.mp ha
    have b1 := List.pairwise_cons.mp hb
    have e : x = y := by
      rcases List.mem_cons.mp ((h x).mp List.mem_cons_self) with e | e
      · exact e
      · rcases List.mem_cons.mp ((h y).mpr List.mem_cons_self) with e2 | e2
        · exact e2.symm
        · have := b1.1 _ e
          have := a1.1 _ e2
          omega
    subst e
    rw [asc_same a1.2 b1.2 fun v => ⟨fun hv => ?_, fun hv => ?_⟩]
    · rcases List.mem_cons.mp ((h v).mp (List.mem_cons_of_mem _ hv)) with e | e
      · have := a1.1 _ hv
        omega
      · exact e
    · rcases List.mem_cons.mp ((h v).mpr (List.mem_cons_of_mem _ hv)) with e | e
      · have := b1.1 _ hv
        omega
      · exact e
theorem ints_pair (n : Nat) : ((List.range n).map Int.ofNat).Pairwise (· < ·) := by
  refine List.pairwise_map.mpr (List.pairwise_lt_range.imp fun h => ?_)
  simp only [Int.ofNat_eq_natCast]
  omega
theorem usedL_pair {rss : List (List Int)} {m : Nat} : (usedL rss m).Pairwise (· < ·) := (ints_pair 6).filter _
theorem Full.at {ks : List Int} {rss : List (List Int)} (t : Full ks rss) {m : Nat} (hm : m < ks.length) {r : List Int} (hr : r ∈ rss) : 0 ≤ r.getD m 0 ∧ r.getD m 0 < 6 := by
  have f := t.rf r hr
  have hl : m < r.length := by rw [f.len]; exact hm
  have h := f.c m ks[m] r[m] (List.getElem?_eq_getElem hm) (List.getElem?_eq_getElem hl)
  have k := t.kb _ (List.getElem_mem hm)
  rw [List.getD_eq_getElem?_getD, List.getElem?_eq_getElem hl]
  show 0 ≤ r[m] ∧ r[m] < 6
  omega
theorem mem_usedL {ks : List Int} {rss : List (List Int)} (t : Full ks rss) {m : Nat} (hm : m < ks.length) {c : Int} : c ∈ usedL rss m ↔ ∃ r ∈ rss, r.getD m 0 = c := by
  unfold usedL
  rw [List.mem_filter, decide_eq_true_eq, List.mem_map]
  refine ⟨fun h => h.2, fun h => ⟨?_, h⟩⟩
  obtain ⟨r, hr, rfl⟩ := h
  have := t.at hm hr
  exact ⟨(r.getD m 0).toNat, List.mem_range.mpr (by omega), Int.toNat_of_nonneg this.1⟩
theorem usedL_is {ks : List Int} {rss : List (List Int)} (t : Full ks rss) {m : Nat} (hm : m < ks.length) {us : List Int} (h1 : us.Pairwise (· < ·)) (h2 : ∀ c, c ∈ us ↔ ∃ r ∈ rss, r.getD m 0 = c) : us = usedL rss m :=
  asc_same h1 usedL_pair fun c => by rw [h2, mem_usedL t hm]
/-! trees on any places -/
/-- what steps_to has found: places in turn, and the next one on the way of each -/
structure StepU (U : List Int) (ts : List (Int × Int)) (goal : Int) (ks vs stack : List Int) : Prop where
  nd : ks.Nodup
  ln : vs.length = ks.length
  hd : ks[0]? = some goal
  hv : vs[0]? = some goal
  rng : ∀ k ∈ ks, k ∈ U
  sub : ∀ s ∈ stack, s ∈ ks
  snd : stack.Nodup
  back : ∀ (i : Nat) (k v : Int), 1 ≤ i → ks[i]? = some k → vs[i]? = some v → ((k, v) ∈ ts ∨ (v, k) ∈ ts) ∧ ∃ j : Nat, j < i ∧ ks[j]? = some v
structure StepsU (U : List Int) (ts : List (Int × Int)) (goal : Int) (ks vs : List Int) : Prop where
  i : StepU U ts goal ks vs []
  cl : ∀ t ∈ ts, (t.1 ∈ ks ↔ t.2 ∈ ks)
structure TsU (U : List Int) (ts : List (Int × Int)) : Prop where
  l : ts.length ≤ 60
  u : U.length ≤ 60
  b : ∀ t ∈ ts, t.1 ∈ U ∧ t.2 ∈ U
theorem StepU.few {U : List Int} {ts : List (Int × Int)} {goal : Int} {ks vs st : List Int} (h : StepU U ts goal ks vs st) : ks.length ≤ U.length := nlenT h.nd h.rng
theorem stepU_start {U : List Int} {ts : List (Int × Int)} {goal : Int} (g0 : goal ∈ U) : StepU U ts goal [goal] [goal] [goal] :=
  ⟨by simp, rfl, rfl, rfl, fun k hk => by rw [List.mem_singleton.mp hk]; exact g0, fun s hs => hs, by simp, fun i k v hi hk _ => by
    rw [List.getElem?_eq_none (by simp only [List.length_cons, List.length_nil]; omega)] at hk
    cases hk⟩
theorem stepU_add {U : List Int} {ts : List (Int × Int)} {goal f pl : Int} {ks vs st : List Int} (h : StepU U ts goal ks vs st) (hp : pl ∈ ks) (hf : f ∉ ks) (ht : (f, pl) ∈ ts ∨ (pl, f) ∈ ts) (f0 : f ∈ U) : StepU U ts goal (ks ++ [f]) (vs ++ [pl]) (st ++ [f]) := by
  have hne : 0 < ks.length := List.length_pos_of_mem hp
  refine ⟨?_, by rw [List.length_append, List.length_append, h.ln]; rfl, ?_, ?_, fun k hk => ?_, fun s hs => ?_, ?_, fun i k v hi hk hv => ?_⟩
  · rw [List.nodup_append]
    exact ⟨h.nd, by simp, fun a ha b hb e => by rw [List.mem_singleton.mp hb] at e; exact hf (by rw [← e]; exact ha)⟩
  · rw [List.getElem?_append_left hne]
    exact h.hd
  · rw [List.getElem?_append_left (by rw [h.ln]; exact hne)]
    exact h.hv
  · rcases List.mem_append.mp hk with hk | hk
    · exact h.rng k hk
    · rw [List.mem_singleton.mp hk]
      exact f0
  · rcases List.mem_append.mp hs with hs | hs
    · exact List.mem_append_left _ (h.sub s hs)
    · exact List.mem_append_right _ hs
  · rw [List.nodup_append]
    exact ⟨h.snd, by simp, fun a ha b hb e => by rw [List.mem_singleton.mp hb] at e; exact hf (by rw [← e]; exact h.sub a ha)⟩
  · by_cases hlt : i < ks.length
    · rw [List.getElem?_append_left hlt] at hk
      rw [List.getElem?_append_left (by rw [h.ln]; exact hlt)] at hv
      obtain ⟨h1, j, hj, e⟩ := h.back i k v hi hk hv
      exact ⟨h1, j, hj, by rw [List.getElem?_append_left (by omega)]; exact e⟩
    · have hil : i < (ks ++ [f]).length := (List.getElem?_eq_some_iff.mp hk).1
      rw [List.length_append] at hil
      simp only [List.length_cons, List.length_nil] at hil
      have hi2 : i = ks.length := by omega
      subst hi2
      rw [List.getElem?_append_right (Nat.le_refl _), Nat.sub_self] at hk
      rw [List.getElem?_append_right (by rw [h.ln]; exact Nat.le_refl _), h.ln, Nat.sub_self] at hv
      cases hk
      cases hv
      obtain ⟨j, e⟩ := List.mem_iff_getElem?.mp hp
      have hj := (List.getElem?_eq_some_iff.mp e).1
      exact ⟨ht, j, hj, by rw [List.getElem?_append_left hj]; exact e⟩
theorem stepU_pop {U : List Int} {ts : List (Int × Int)} {goal y : Int} {ks vs ys : List Int} (h : StepU U ts goal ks vs (ys ++ [y])) : StepU U ts goal ks vs ys ∧ y ∈ ks ∧ y ∉ ys := by
  have hn := h.snd
  rw [List.nodup_append] at hn
  exact ⟨⟨h.nd, h.ln, h.hd, h.hv, h.rng, fun s hs => h.sub s (List.mem_append_left _ hs), hn.1, h.back⟩, h.sub y (List.mem_append_right _ (List.mem_singleton.mpr rfl)), fun hy => hn.2.2 y hy y (List.mem_singleton.mpr rfl) rfl⟩

def TieD (q : D) (ts : List (Int × Int)) : Prop := q = .tup (ts.map pairI) ∨ q = .lst (ts.map pairI)
/-! custom trees -/
theorem stepU_sub {U : List Int} {ts : List (Int × Int)} {g : Int} {ks vs st : List Int} (h : StepU U ts g ks vs st) {S : List Int} (hc : ∀ t ∈ ts, (t.1 ∈ S ↔ t.2 ∈ S)) (hg : g ∈ S) : ∀ k ∈ ks, k ∈ S := by
  have main : ∀ (m i : Nat) (k : Int), i ≤ m → ks[i]? = some k → k ∈ S := by
    intro m
    induction m with
    | zero =>
      intro i k hi hk
      obtain rfl : i = 0 := by omega
      rw [h.hd] at hk
      rw [← Option.some.inj hk]
      exact hg
    | succ m ih =>
      intro i k hi hk
      cases i with
      | zero => exact ih 0 k (Nat.zero_le _) hk
      | succ i =>
        have hl := (List.getElem?_eq_some_iff.mp hk).1
        have hl2 : i + 1 < vs.length := by rw [h.ln]; exact hl
        have hv : vs[i + 1]? = some vs[i + 1] := List.getElem?_eq_getElem hl2
        obtain ⟨ht, j, hj, ej⟩ := h.back (i + 1) k _ (by omega) hk hv
        have hs := ih j _ (by omega) ej
        rcases ht with ht | ht
        · exact (hc _ ht).mpr hs
        · exact (hc _ ht).mp hs
  intro k hk
  obtain ⟨i, hi⟩ := List.mem_iff_getElem?.mp hk
  exact main i i k (Nat.le_refl _) hi
/-- a place to which ties lead from another -/
def Reach (ts : List (Int × Int)) (g c : Int) : Prop := ∀ S : List Int, (∀ t ∈ ts, (t.1 ∈ S ↔ t.2 ∈ S)) → g ∈ S → c ∈ S
noncomputable def nearB (ts : List (Int × Int)) (g c : Int) : Bool := @decide (Reach ts g c) (Classical.propDecidable _)
theorem near_true {ts : List (Int × Int)} {g c : Int} : nearB ts g c = true ↔ Reach ts g c := @decide_eq_true_iff _ (Classical.propDecidable _)
theorem stepU_near {U : List Int} {ts : List (Int × Int)} {g : Int} {ks vs : List Int} (h : StepsU U ts g ks vs) {c : Int} : nearB ts g c = decide (c ∈ ks) := by
  by_cases z : c ∈ ks
  · rw [decide_eq_true z, near_true]
    exact fun S hS hg => stepU_sub h.i hS hg c z
  · rw [decide_eq_false z]
    cases y : nearB ts g c with
    | false => rfl
    | true => exact absurd (near_true.mp y ks h.cl (List.mem_of_getElem? h.i.hd)) z
/-- all places can be reached from one -/
noncomputable def connU (us : List Int) (ts : List (Int × Int)) : Bool := us.all (nearB ts (us.getD 0 0))
theorem conn_lenU {us : List Int} (nd : us.Nodup) {ts : List (Int × Int)} {F : List Int} (fn : F.Nodup) (hF : ∀ c ∈ F, c ∈ us) (hn : ∀ c, nearB ts (us.getD 0 0) c = decide (c ∈ F)) : connU us ts = decide (F.length = us.length) := by
  have a := nlenT fn hF
  by_cases z : F.length = us.length
  · rw [decide_eq_true z]
    refine List.all_eq_true.mpr fun c hc => ?_
    rw [hn, decide_eq_true_eq]
    refine Classical.byContradiction fun hx => ?_
    have b := nlenT (l := c :: F) (m := us) (List.nodup_cons.mpr ⟨hx, fn⟩) fun x h => (List.mem_cons.mp h).elim (fun e => e ▸ hc) (hF x)
    rw [List.length_cons] at b
    omega
  · rw [decide_eq_false z]
    refine Bool.eq_false_iff.mpr fun h => z ?_
    have b := nlenT nd fun c hc => of_decide_eq_true ((hn c).symm.trans (List.all_eq_true.mp h c hc))
    omega
/-- customs that are used -/
structure UsOk (us : List Int) : Prop where
  p : us.Pairwise (· < ·)
  l : 1 ≤ us.length ∧ us.length ≤ 6
  b : ∀ u ∈ us, 0 ≤ u ∧ u < 6
theorem UsOk.nd {us : List Int} (h : UsOk us) : us.Nodup := h.p.imp fun h => by omega
theorem usedL_ok {ks : List Int} {rss : List (List Int)} (t : Full ks rss) {m : Nat} (hm : m < ks.length) : UsOk (usedL rss m) := by
  refine ⟨usedL_pair, ⟨?_, ?_⟩, fun u hu => ?_⟩
  · have rl := t.rl
    have h0 : 0 < rss.length := by omega
    exact List.length_pos_of_mem ((mem_usedL t hm).mpr ⟨rss[0], List.getElem_mem h0, rfl⟩)
  · unfold usedL
    have := List.length_filter_le (fun c => decide (∃ r ∈ rss, r.getD m 0 = c)) ((List.range 6).map Int.ofNat)
    rwa [List.length_map, List.length_range] at this
  · obtain ⟨r, hr, rfl⟩ := (mem_usedL t hm).mp hu
    exact t.at hm hr
def pairD (d : D) : Int × Int := ((intsD d).getD 0 0, (intsD d).getD 1 0)
theorem pairD_at {e : Int × Int} : pairD (pairI e) = e := by
  unfold pairD pairI
  rw [intsD_tup]
  rfl
theorem pairD_map {ts : List (Int × Int)} : (ts.map pairI).map pairD = ts := by
  rw [List.map_map, show pairD ∘ pairI = id from funext fun _ => pairD_at, List.map_id]
theorem ints_pairs {ts : List (Int × Int)} : (ts.map pairI).map intsD = ts.map fun t => [t.1, t.2] := by
  rw [List.map_map]
  exact List.map_congr_left fun t _ => intsD_tup
def tieC (us : List Int) : D → Bool
  | .tup [.int a, .int b] => decide (a < b) && (decide (a ∈ us) && decide (b ∈ us))
  | _ => false
theorem tieC_pair {us : List Int} {d : D} (h : tieC us d = true) : ∃ e : Int × Int, d = pairI e ∧ e.1 < e.2 ∧ e.1 ∈ us ∧ e.2 ∈ us := by
  unfold tieC at h
  split at h
  · simp only [Bool.and_eq_true, decide_eq_true_eq] at h
    exact ⟨(_, _), rfl, h⟩
  · cases h
theorem tieC_is {us : List Int} {e : Int × Int} (h : e.1 < e.2) (h1 : e.1 ∈ us) (h2 : e.2 ∈ us) : tieC us (pairI e) = true := by
  show (decide (e.1 < e.2) && (decide (e.1 ∈ us) && decide (e.2 ∈ us))) = true
  simp [h, h1, h2]
theorem tiesC_of {us : List Int} : ∀ {xs : List D}, xs.all (tieC us) = true → ∃ ts : List (Int × Int), xs = ts.map pairI ∧ ∀ t ∈ ts, t.1 < t.2 ∧ t.1 ∈ us ∧ t.2 ∈ us
  | [], _ => ⟨[], rfl, fun _ h => nomatch h⟩
  | x :: xs, h => by
    rw [List.all_cons, Bool.and_eq_true] at h
    obtain ⟨e, rfl, b⟩ := tieC_pair h.1
    obtain ⟨ts, rfl, bs⟩ := tiesC_of h.2
    exact ⟨e :: ts, rfl, fun t ht => (List.mem_cons.mp ht).elim (fun z => by rw [z]; exact b) (bs t)⟩
theorem tiesC_B {us : List Int} {ts : List (Int × Int)} (h : ∀ t ∈ ts, t.1 < t.2 ∧ t.1 ∈ us ∧ t.2 ∈ us) : (ts.map pairI).all (tieC us) = true := List.all_eq_true.mpr fun d hd => by
  obtain ⟨e, he, rfl⟩ := List.mem_map.mp hd
  have b := h e he
  exact tieC_is b.1 b.2.1 b.2.2
noncomputable def ctB (us : List Int) : D → Bool
  | .tup xs => decide (xs.length + 1 = us.length) && (xs.all (tieC us) && (risL (xs.map intsD) && connU us (xs.map pairD)))
  | _ => false
structure CT (us : List Int) (ts : List (Int × Int)) : Prop where
  l : ts.length + 1 = us.length
  b : ∀ t ∈ ts, t.1 < t.2 ∧ t.1 ∈ us ∧ t.2 ∈ us
  ris : risL (ts.map fun t => [t.1, t.2]) = true
  conn : connU us ts = true
theorem ctB_pairs {us : List Int} {ts : List (Int × Int)} (hl : ts.length + 1 = us.length) (hb : ∀ t ∈ ts, t.1 < t.2 ∧ t.1 ∈ us ∧ t.2 ∈ us) : ctB us (.tup (ts.map pairI)) = (risL (ts.map fun t => [t.1, t.2]) && connU us ts) := by
  show (decide ((ts.map pairI).length + 1 = us.length) && ((ts.map pairI).all (tieC us) && (risL ((ts.map pairI).map intsD) && connU us ((ts.map pairI).map pairD)))) = _
  rw [List.length_map, decide_eq_true hl, tiesC_B hb, ints_pairs, pairD_map]
  rfl
theorem ct_B {us : List Int} {ts : List (Int × Int)} (t : CT us ts) : ctB us (.tup (ts.map pairI)) = true := by
  rw [ctB_pairs t.l t.b, t.ris, t.conn]
  rfl
theorem CT.tsU {us : List Int} (u : UsOk us) {ts : List (Int × Int)} (t : CT us ts) : TsU us ts := ⟨by have := t.l; have := u.l; omega, by have := u.l; omega, fun e he => (t.b e he).2⟩
theorem ties_nx {ts : List (Int × Int)} : nx (.tup (ts.map pairI)) = true := nxs_of fun d hd => by
  obtain ⟨e, _, rfl⟩ := List.mem_map.mp hd
  rfl
theorem ties_short {ts : List (Int × Int)} (h : ts.length ≤ 21) : short2 (.tup (ts.map pairI)) = true := by
  simp only [short2, Bool.and_eq_true, decide_eq_true_eq, List.all_eq_true, List.length_map]
  refine ⟨by omega, fun d hd => ?_⟩
  obtain ⟨e, _, rfl⟩ := List.mem_map.mp hd
  rfl
theorem risB_ascU : ∀ {l : List Int}, risB l = true → l.Pairwise (· < ·)
  | [], _ => List.Pairwise.nil
  | [_], _ => by simp
  | a :: b :: l, h => by
    have h0 : decide (a < b) = true ∧ risB (b :: l) = true := by simpa [risB] using h
    have ih := risB_ascU h0.2
    refine List.pairwise_cons.mpr ⟨fun v hv => ?_, ih⟩
    rcases List.mem_cons.mp hv with rfl | hv
    · exact of_decide_eq_true h0.1
    · have := List.rel_of_pairwise_cons ih hv
      have := of_decide_eq_true h0.1
      omega
theorem lot_ofU {lo hi : Int} {d : D} (h : lotB2 lo hi d = true) : ∃ ns, d = tupI ns ∧ ns ≠ [] ∧ ns.Pairwise (· < ·) ∧ ∀ v ∈ ns, lo ≤ v ∧ v ≤ hi := by
  cases d with
  | tup xs =>
    have h : (!xs.isEmpty && xs.all (betw lo hi) && risB (intsOf xs)) = true := h
    rw [Bool.and_eq_true, Bool.and_eq_true] at h
    obtain ⟨⟨h1, h2⟩, h3⟩ := h
    have e : xs = (intsOf xs).map D.int := all_ints fun d hd => by
      have q := List.all_eq_true.mp h2 d hd
      cases d with
      | int v => exact ⟨v, rfl⟩
      | _ => simp [betw] at q
    refine ⟨intsOf xs, congrArg D.tup e, fun z => ?_, risB_ascU h3, fun v hv => ?_⟩
    · rw [z] at e
      rw [e] at h1
      cases h1
    · have q := List.all_eq_true.mp h2 (.int v) (by rw [e]; exact List.mem_map_of_mem hv)
      simpa [betw] using q
  | _ => simp [lotB2] at h
theorem lot_isU {lo hi : Int} {ns : List Int} (h1 : ns ≠ []) (h2 : ns.Pairwise (· < ·)) (h3 : ∀ v ∈ ns, lo ≤ v ∧ v ≤ hi) : lotB2 lo hi (tupI ns) = true := by
  show (!(ns.map D.int).isEmpty && (ns.map D.int).all (betw lo hi) && risB (intsOf (ns.map D.int))) = true
  rw [intsOf_map, risB_of h2, Bool.and_true, Bool.and_eq_true]
  refine ⟨?_, List.all_eq_true.mpr fun d hd => ?_⟩
  · cases ns with
    | nil => exact absurd rfl h1
    | cons a l => rfl
  · obtain ⟨v, hv, rfl⟩ := List.mem_map.mp hd
    have := h3 v hv
    simp only [betw, Bool.and_eq_true, decide_eq_true_eq]
    exact this
/-- an ascending list lies between its ends -/
theorem asc_ends {us : List Int} (h : us.Pairwise (· < ·)) {j : Nat} (hj : us.length = j + 1) {u : Int} (hu : u ∈ us) : us.getD 0 0 ≤ u ∧ u ≤ us.getD j 0 := by
  obtain ⟨i, hi⟩ := List.mem_iff_getElem?.mp hu
  obtain ⟨hl, e⟩ := List.getElem?_eq_some_iff.mp hi
  have p := List.pairwise_iff_getElem.mp h
  rw [List.getD_eq_getElem?_getD, List.getD_eq_getElem?_getD, List.getElem?_eq_getElem (by omega), List.getElem?_eq_getElem (by omega), Option.getD_some, Option.getD_some]
  constructor
  · rcases Nat.eq_zero_or_pos i with z | z
    · subst z
      omega
    · have := p 0 i (by omega) hl z
      omega
  · rcases Nat.lt_or_ge i j with z | z
    · have := p i j hl (by omega) z
      omega
    · have z2 : i = j := by omega
      subst z2
      omega
/-- a lot of two used customs is a tie -/
theorem tie_lot {us : List Int} (u : UsOk us) {j : Nat} (hj : us.length = j + 1) {xs : List D} : (lotB2 (us.getD 0 0) (us.getD j 0) (.tup xs) && (decide (xs.length = 2) && xs.all fun d => decide (toI d ∈ us))) = tieC us (.tup xs) := by
  cases h : tieC us (.tup xs) with
  | true =>
    obtain ⟨e, he, h1, h2, h3⟩ := tieC_pair h
    have a1 := asc_ends u.p hj h2
    have a2 := asc_ends u.p hj h3
    rw [he, show lotB2 (us.getD 0 0) (us.getD j 0) (pairI e) = true from lot_isU (by simp) (by simp [h1]) (fun v hv => by
      simp only [List.mem_cons, List.not_mem_nil, or_false] at hv
      rcases hv with rfl | rfl
      · exact a1
      · exact a2)]
    have z : xs = [.int e.1, .int e.2] := D.tup.inj he
    rw [z]
    show (true && (decide (2 = 2) && (decide (e.1 ∈ us) && (decide (e.2 ∈ us) && true)))) = true
    simp [h2, h3]
  | false =>
    refine Bool.eq_false_iff.mpr fun z => ?_
    simp only [Bool.and_eq_true, decide_eq_true_eq, List.all_eq_true] at z
    obtain ⟨z1, z2, z3⟩ := z
    obtain ⟨ns, e, _, hp, _⟩ := lot_ofU z1
    have e := D.tup.inj e
    subst e
    match ns, z2, hp, z3, h with
    | [a, b], _, hp, z3, h =>
      have z : tieC us (pairI (a, b)) = true := tieC_is ((List.pairwise_cons.mp hp).1 b (by simp)) (z3 (.int a) (by simp)) (z3 (.int b) (by simp))
      have h : tieC us (pairI (a, b)) = false := h
      rw [z] at h
      cases h
theorem at_lastU {us : List Int} {j : Nat} (hj : us.length = j + 1) : atD (us.map D.int) (-1) = some (.int (us.getD j 0)) := by
  have e : ixN (us.map D.int).length (-1) = some j := by
    rw [List.length_map, hj]
    unfold ixN
    rw [if_neg (by omega)]
    simp
    omega
  unfold atD
  rw [e, Option.bind_some, List.getElem?_map, List.getD_eq_getElem?_getD, List.getElem?_eq_getElem (by omega)]
  rfl
/-- a matter's customs, valley by valley -/
def colL (rss : List (List Int)) (m : Nat) : List Int := rss.map fun r => r.getD m 0
/-- the valleys that a pair parts from the first -/
noncomputable def partC (ts : List (Int × Int)) (col : List Int) (e : Int × Int) : List Int := ((List.range col.length).filter fun v => !nearB (ts.filter fun t => decide (t ≠ e)) (col.getD 0 0) (col.getD v 0)).map Int.ofNat
noncomputable def sidesC (ts : List (Int × Int)) (col : List Int) : List (List Int) := ts.map (partC ts col)
theorem filterMap_ifU {α β : Type} {p : α → Bool} {q : α → β} : ∀ l : List α, l.filterMap (fun a => if p a = true then some (q a) else none) = (l.filter p).map q
  | [] => rfl
  | a :: l => by
    rw [List.filterMap_cons, List.filter_cons]
    cases h : p a with
    | true => rw [if_pos rfl, if_pos rfl, List.map_cons, filterMap_ifU l]
    | false => rw [if_neg (by simp), if_neg (by simp), filterMap_ifU l]
theorem filterMap_cong {α β : Type} {f g : α → Option β} {l : List α} (h : ∀ a ∈ l, f a = g a) : l.filterMap f = l.filterMap g := by
  induction l with
  | nil => rfl
  | cons a l ih => rw [List.filterMap_cons, List.filterMap_cons, h a List.mem_cons_self, ih fun b hb => h b (List.mem_cons_of_mem _ hb)]
theorem eqP_intsU {g : Bool → Bool} {a b : List Int} {k : D → Prop} (h : k (.bl (g (decide (a = b))))) : eqP g (tupI a) (tupI b) k := by
  refine ⟨_, _, toP_tup _, toP_tup _, shaped_tup _, shaped_tup _, ?_⟩
  rw [eqv_dT]
  exact h
theorem pair_eq {a b : Int × Int} : decide ([a.1, a.2] = [b.1, b.2]) = decide (a = b) := decide_eq_decide.mpr ⟨fun h => by simp only [List.cons.injEq, and_true] at h; exact Prod.ext h.1 h.2, fun h => by rw [h]⟩
def notE (e : Int × Int) : D → Option D := fun d => if decide (pairD d ≠ e) then some d else none
theorem notE_map {e : Int × Int} {ts : List (Int × Int)} : (ts.map pairI).filterMap (notE e) = (ts.filter fun t => decide (t ≠ e)).map pairI := by
  rw [List.filterMap_map]
  have z : (notE e ∘ pairI) = fun t : Int × Int => if decide (t ≠ e) = true then some (pairI t) else none := by
    funext t
    show (if decide (pairD (pairI t) ≠ e) = true then some (pairI t) else none) = _
    rw [pairD_at]
  rw [z, filterMap_ifU]
def farF (ks : List Int) (m : Nat) : D → Option D
  | .tup [.int v, row] => if !decide (toI (atN row m) ∈ ks) then some (.int v) else none
  | _ => none
theorem far_map {rss : List (List Int)} {ks : List Int} {m : Nat} (hm : ∀ r ∈ rss, m < r.length) : (enumD 0 (rss.map tupI)).filterMap (farF ks m) = ((List.range (colL rss m).length).filter fun v => !decide ((colL rss m).getD v 0 ∈ ks)).map natD := by
  have e : enumD 0 (rss.map tupI) = (List.range (colL rss m).length).map fun v => D.tup [.int (v : Nat), tupI (rss.getD v [])] := by
    refine List.ext_getElem? fun i => ?_
    rw [enumD_get, List.getElem?_map, List.getElem?_map]
    unfold colL
    rw [List.length_map]
    rcases Nat.lt_or_ge i rss.length with h | h
    · rw [List.getElem?_range h, List.getElem?_eq_getElem h, Option.map_some, Option.map_some, Option.map_some, Nat.zero_add, List.getD_eq_getElem?_getD, List.getElem?_eq_getElem h]
      rfl
    · rw [List.getElem?_eq_none (by omega), List.getElem?_eq_none (by rw [List.length_range]; omega)]
      rfl
  rw [e, List.filterMap_map, ← filterMap_ifU]
  refine filterMap_cong fun v hv => ?_
  have hv : v < rss.length := by have := List.mem_range.mp hv; unfold colL at this; rwa [List.length_map] at this
  have z : (colL rss m).getD v 0 = toI (atN (tupI (rss.getD v [])) m) := by
    unfold colL
    rw [List.getD_eq_getElem?_getD, List.getElem?_map, List.getElem?_eq_getElem hv, List.getD_eq_getElem?_getD, List.getElem?_eq_getElem hv]
    have hl := hm _ (List.getElem_mem hv)
    show rss[v].getD m 0 = toI ((rss[v].map D.int).getD m .non)
    rw [List.getD_eq_getElem?_getD, List.getD_eq_getElem?_getD, List.getElem?_map, List.getElem?_eq_getElem hl]
    rfl
  rw [z]
  rfl
/-! drawn custom trees -/
theorem range_at {lo : Int} {m i : Nat} {x : D} (h : (rangeD lo m)[i]? = some x) : x = .int (lo + (i : Int)) ∧ i < m := by
  unfold rangeD at h
  rw [List.getElem?_map] at h
  rcases Nat.lt_or_ge i m with z | z
  · rw [List.getElem?_range z] at h
    cases h
    exact ⟨rfl, z⟩
  · rw [List.getElem?_eq_none (by rw [List.length_range]; exact z)] at h
    cases h
def normP (a b : Int) : Int × Int := (if b < a then b else a, if b > a then b else a)
structure DrawnI (o : List Int) (fs : List (Int × Int)) (i : Nat) : Prop where
  len : fs.length = i
  at' : ∀ (j : Nat) t, fs[j]? = some t → ∃ q, q ≤ j ∧ t = normP (o.getD (j + 1) 0) (o.getD q 0)
theorem DrawnI.add {o : List Int} {fs : List (Int × Int)} {i : Nat} (h : DrawnI o fs i) {q : Nat} (hq : q ≤ i) : DrawnI o (fs ++ [normP (o.getD (i + 1) 0) (o.getD q 0)]) (i + 1) := by
  refine ⟨by rw [List.length_append, h.len]; rfl, fun j t hj => ?_⟩
  rcases Nat.lt_or_ge j fs.length with hl | hl
  · rw [List.getElem?_append_left hl] at hj
    exact h.at' j t hj
  · have hl2 := (List.getElem?_eq_some_iff.mp hj).1
    rw [List.length_append] at hl2
    simp only [List.length_cons, List.length_nil] at hl2
    have e : j = fs.length := by omega
    subst e
    rw [List.getElem?_append_right (Nat.le_refl _), Nat.sub_self] at hj
    cases hj
    rw [h.len]
    exact ⟨q, hq, rfl⟩
theorem normP_lt {a b : Int} (h : a ≠ b) : (normP a b).1 < (normP a b).2 ∧ (normP a b = (a, b) ∨ normP a b = (b, a)) := by
  unfold normP
  rcases Int.lt_or_gt_of_ne h with z | z
  · rw [if_neg (by omega), if_pos (by omega)]
    exact ⟨z, .inl rfl⟩
  · rw [if_pos (by omega), if_neg (by omega)]
    exact ⟨z, .inr rfl⟩
theorem nodup_at {o : List Int} (nd : o.Nodup) {i j : Nat} (hi : i < o.length) (hj : j < o.length) (e : o.getD i 0 = o.getD j 0) : i = j := by
  rw [List.getD_eq_getElem?_getD, List.getD_eq_getElem?_getD, List.getElem?_eq_getElem hi, List.getElem?_eq_getElem hj, Option.getD_some, Option.getD_some] at e
  rcases Nat.lt_trichotomy i j with h | h | h
  · exact absurd e (List.pairwise_iff_getElem.mp nd i j hi hj h)
  · exact h
  · exact absurd e.symm (List.pairwise_iff_getElem.mp nd j i hj hi h)
theorem getD_memU {o : List Int} {i : Nat} (hi : i < o.length) : o.getD i 0 ∈ o := by
  rw [List.getD_eq_getElem?_getD, List.getElem?_eq_getElem hi]
  exact List.getElem_mem hi
theorem DrawnI.ends {o : List Int} {fs : List (Int × Int)} {i : Nat} (h : DrawnI o fs i) (nd : o.Nodup) (hi : i + 1 = o.length) {j : Nat} {t : Int × Int} (hj : fs[j]? = some t) : ∃ q, q ≤ j ∧ j + 1 < o.length ∧ t.1 < t.2 ∧ (t = (o.getD (j + 1) 0, o.getD q 0) ∨ t = (o.getD q 0, o.getD (j + 1) 0)) := by
  obtain ⟨q, hq, rfl⟩ := h.at' j t hj
  have hl := (List.getElem?_eq_some_iff.mp hj).1
  have := h.len
  have hne : o.getD (j + 1) 0 ≠ o.getD q 0 := fun e => by
    have := nodup_at nd (by omega) (by omega) e
    omega
  obtain ⟨a, b⟩ := normP_lt hne
  exact ⟨q, hq, by omega, a, b⟩
theorem DrawnI.nd {o : List Int} {fs : List (Int × Int)} {i : Nat} (h : DrawnI o fs i) (nd : o.Nodup) (hi : i + 1 = o.length) : fs.Nodup := by
  refine List.pairwise_iff_getElem.mpr fun j k hj hk hjk e => ?_
  obtain ⟨q, hq, b1, _, e1⟩ := h.ends nd hi (List.getElem?_eq_getElem hj)
  obtain ⟨q2, hq2, b2, _, e2⟩ := h.ends nd hi (List.getElem?_eq_getElem hk)
  rw [e] at e1
  have at1 : ∀ x, x ≤ j + 1 → o.getD (k + 1) 0 ≠ o.getD x 0 := fun x hx z => by
    have := nodup_at nd b2 (by omega) z
    omega
  rcases e1 with e1 | e1 <;> rcases e2 with e2 | e2 <;> rw [e1] at e2
  · exact at1 _ (Nat.le_refl _) (congrArg Prod.fst e2).symm
  · exact at1 q (by omega) (congrArg Prod.snd e2).symm
  · exact at1 q (by omega) (congrArg Prod.fst e2).symm
  · exact at1 _ (Nat.le_refl _) (congrArg Prod.snd e2).symm
def lotP (t : Int × Int) : List Int := [t.1, t.2]
/-! what laps over pairs join -/
structure JoinU (U : List Int) (qs : List (Int × Int)) (g : Int) (F : List Int) : Prop where
  z : g ∈ F
  nd : F.Nodup
  rng : ∀ p ∈ F, p ∈ U
  sub : ∀ S : List Int, (∀ t ∈ qs, (t.1 ∈ S ↔ t.2 ∈ S)) → g ∈ S → ∀ p ∈ F, p ∈ S
def ClU (qs : List (Int × Int)) (F : List Int) : Prop := ∀ t ∈ qs, (t.1 ∈ F ↔ t.2 ∈ F)
structure LapU (U : List Int) (ts : List (Int × Int)) (p : Int × Int → Bool) (g : Int) (F0 F : List Int) (j : Nat) : Prop where
  b : JoinU U (ts.filter p) g F
  h : (F = F0 ∧ ∀ (i : Nat) (t : Int × Int), i < j → ts[i]? = some t → p t = true → (t.1 ∈ F0 ↔ t.2 ∈ F0)) ∨ F0.length + 1 ≤ F.length
  s : F0.length ≤ F.length
  z0 : g ∈ F0
section
variable {U : List Int} {ts qs : List (Int × Int)} {p : Int × Int → Bool} {g : Int} {F F0 : List Int}
theorem joinU_start (hg : g ∈ U) : JoinU U qs g [g] := ⟨by simp, by simp, fun p hp => by rw [List.mem_singleton.mp hp]; exact hg, fun S _ h p hp => by rw [List.mem_singleton.mp hp]; exact h⟩
theorem joinU_len (b : JoinU U qs g F) : F.length ≤ U.length := nlenT b.nd b.rng
theorem lapU_start (b : JoinU U (ts.filter p) g F) : LapU U ts p g F F 0 := ⟨b, .inl ⟨rfl, fun i t hi => absurd hi (Nat.not_lt_zero i)⟩, Nat.le_refl _, b.z⟩
theorem lapU_keep {j : Nat} {t : Int × Int} (h : LapU U ts p g F0 F j) (ht : ts[j]? = some t) (hk : p t = true → (t.1 ∈ F ↔ t.2 ∈ F)) : LapU U ts p g F0 F (j + 1) := by
  refine ⟨h.b, ?_, h.s, h.z0⟩
  rcases h.h with ⟨rfl, h1⟩ | h1
  · refine .inl ⟨rfl, fun i u hi hu => ?_⟩
    by_cases z : i = j
    · subst z
      rw [ht] at hu
      rw [← Option.some.inj hu]
      exact hk
    · exact h1 i u (by omega) hu
  · exact .inr h1
theorem lapU_add {j : Nat} {t : Int × Int} {x y : Int} (h : LapU U ts p g F0 F j) (ht : t ∈ ts) (hpt : p t = true) (xU : x ∈ U) (hxy : t = (x, y) ∨ t = (y, x)) (hy : y ∈ F) (hx : x ∉ F) : LapU U ts p g F0 (F ++ [x]) (j + 1) := by
  have htq : t ∈ ts.filter p := List.mem_filter.mpr ⟨ht, hpt⟩
  refine ⟨⟨List.mem_append_left _ h.b.z, ?_, fun p hp => ?_, fun S hS h0 p hp => ?_⟩, .inr ?_, ?_, h.z0⟩
  · rw [List.nodup_append]
    exact ⟨h.b.nd, List.nodup_cons.mpr ⟨(fun z => nomatch z), List.nodup_nil⟩, fun a ha c hc e => hx (by rw [← List.mem_singleton.mp hc, ← e]; exact ha)⟩
  · rcases List.mem_append.mp hp with hp | hp
    · exact h.b.rng p hp
    · rw [List.mem_singleton.mp hp]
      exact xU
  · rcases List.mem_append.mp hp with hp | hp
    · exact h.b.sub S hS h0 p hp
    · rw [List.mem_singleton.mp hp]
      have hyS := h.b.sub S hS h0 y hy
      have c := hS t htq
      rcases hxy with rfl | rfl
      · exact c.mpr hyS
      · exact c.mp hyS
  · rw [List.length_append, List.length_singleton]
    have := h.s
    omega
  · rw [List.length_append]
    have := h.s
    omega
theorem lapU_end {i : Nat} (h : LapU U ts p g F0 F ts.length) (h0 : ClU (ts.filter p) F0 ∨ i + 1 ≤ F0.length) : ClU (ts.filter p) F ∨ i + 1 + 1 ≤ F.length := by
  rcases h.h with ⟨rfl, h1⟩ | h1
  · refine .inl fun t ht => ?_
    obtain ⟨ht, hp⟩ := List.mem_filter.mp ht
    obtain ⟨k, hk⟩ := List.mem_iff_getElem?.mp ht
    exact h1 k t (List.getElem?_eq_some_iff.mp hk).1 hk hp
  · rcases h0 with h0 | h0
    · refine .inl fun t ht => ?_
      have s1 : ∀ p ∈ F, p ∈ F0 := h.b.sub F0 h0 h.z0
      have := nlenT h.b.nd s1
      omega
    · exact .inr (by omega)
theorem joinU_near (hb : ∀ t ∈ qs, t.1 ∈ U ∧ t.2 ∈ U) (nd : U.Nodup) (b : JoinU U qs g F) (h : ClU qs F ∨ U.length ≤ F.length) (c : Int) : nearB qs g c = decide (c ∈ F) := by
  have hc : ClU qs F := by
    rcases h with h | h
    · exact h
    · have all : ∀ u ∈ U, u ∈ F := fun u hu => by
        refine Classical.byContradiction fun hx => ?_
        have z := nlenT (l := u :: F) (m := U) (List.nodup_cons.mpr ⟨hx, b.nd⟩) fun x h => (List.mem_cons.mp h).elim (fun e => e ▸ hu) (b.rng x)
        rw [List.length_cons] at z
        omega
      exact fun t ht => ⟨fun _ => all _ (hb t ht).2, fun _ => all _ (hb t ht).1⟩
  by_cases z : c ∈ F
  · rw [decide_eq_true z, near_true]
    exact fun S hS hg => b.sub S hS hg c z
  · rw [decide_eq_false z]
    cases y : nearB qs g c with
    | false => rfl
    | true => exact absurd (near_true.mp y F hc b.z) z
end
theorem filter_yes {α : Type} (l : List α) : l.filter (fun _ => true) = l := List.filter_eq_self.mpr fun _ _ => rfl
theorem cut_one {us : List Int} {g : Int} (h : us[0]? = some g) : cutD (us.map D.int) none (some 1) = ([g] : List Int).map D.int := by
  rw [show (1 : Int) = ((1 : Nat) : Int) from rfl, cut_to]
  cases us with
  | nil => cases h
  | cons a l => cases h; rfl
def farI (F : List Int) : D → Option D
  | .tup [.int v, .int c] => if !decide (c ∈ F) then some (.int v) else none
  | _ => none
theorem farI_map {col F : List Int} : (enumD 0 (col.map D.int)).filterMap (farI F) = ((List.range col.length).filter fun v => !decide (col.getD v 0 ∈ F)).map natD := by
  have e : enumD 0 (col.map D.int) = (List.range col.length).map fun v => D.tup [.int (v : Nat), .int (col.getD v 0)] := by
    refine List.ext_getElem? fun i => ?_
    rw [enumD_get, List.getElem?_map, List.getElem?_map]
    rcases Nat.lt_or_ge i col.length with h | h
    · rw [List.getElem?_range h, List.getElem?_eq_getElem h, Option.map_some, Option.map_some, Option.map_some, Nat.zero_add, List.getD_eq_getElem?_getD, List.getElem?_eq_getElem h]
      rfl
    · rw [List.getElem?_eq_none (by omega), List.getElem?_eq_none (by rw [List.length_range]; omega)]
      rfl
  rw [e, List.filterMap_map, ← filterMap_ifU]
  rfl
theorem risL_pairU : ∀ {nss : List (List Int)}, risL nss = true → nss.Pairwise (· < ·)
  | [], _ => List.Pairwise.nil
  | [_], _ => by simp
  | a :: b :: l, h => by
    have h0 : SCo.ltI a b = true ∧ risL (b :: l) = true := by
      have e : risL (a :: b :: l) = (SCo.ltI a b && risL (b :: l)) := rfl
      rw [e, Bool.and_eq_true] at h
      exact h
    have ih := risL_pairU h0.2
    have h1 : a < b := of_decide_eq_true h0.1
    refine List.pairwise_cons.mpr ⟨fun v hv => ?_, ih⟩
    rcases List.mem_cons.mp hv with rfl | hv
    · exact h1
    · exact List.lt_trans h1 (List.rel_of_pairwise_cons ih hv)
/-! sides of custom trees -/
theorem reach_self {ts : List (Int × Int)} {g : Int} : nearB ts g g = true := near_true.mpr fun _ _ h => h
theorem near_step {ts : List (Int × Int)} {g : Int} {t : Int × Int} (ht : t ∈ ts) : nearB ts g t.1 = nearB ts g t.2 := by
  rw [Bool.eq_iff_iff, near_true, near_true]
  exact ⟨fun h S hS hg => (hS t ht).mp (h S hS hg), fun h S hS hg => (hS t ht).mpr (h S hS hg)⟩
theorem comp_rep (U : List Int) (nd : U.Nodup) : ∀ qs : List (Int × Int), ∃ (rep : Int → Int) (I : List Int), I.Nodup ∧ U.length ≤ I.length + qs.length ∧ (∀ i ∈ I, ∃ u ∈ U, rep u = i) ∧ ∀ t ∈ qs, rep t.1 = rep t.2
  | [] => ⟨id, U, nd, by simp, fun i hi => ⟨i, hi, rfl⟩, fun t h => nomatch h⟩
  | q :: qs => by
    obtain ⟨rep, I, h1, h2, h3, h4⟩ := comp_rep U nd qs
    refine ⟨fun x => if rep x = rep q.1 then rep q.2 else rep x, I.erase (rep q.1), h1.erase _, ?_, fun i hi => ?_, fun t ht => ?_⟩
    · have := List.length_erase_le (l := I) (a := rep q.1)
      have : I.length - 1 ≤ (I.erase (rep q.1)).length := by
        rw [List.length_erase]
        split <;> omega
      rw [List.length_cons]
      omega
    · obtain ⟨hne, hi⟩ := (h1.mem_erase_iff).mp hi
      obtain ⟨u, hu, rfl⟩ := h3 i hi
      exact ⟨u, hu, if_neg hne⟩
    · rcases List.mem_cons.mp ht with rfl | ht
      · dsimp only
        rw [if_pos rfl]
        split <;> rfl
      · dsimp only
        rw [h4 t ht]
theorem few_ties {U : List Int} (nd : U.Nodup) {qs : List (Int × Int)} {g : Int} (h : ∀ u ∈ U, nearB qs g u = true) : U.length ≤ qs.length + 1 := by
  obtain ⟨rep, I, h1, h2, h3, h4⟩ := comp_rep U nd qs
  have all : ∀ u ∈ U, rep u = rep g := fun u hu => by
    have z := near_true.mp (h u hu) ((g :: (qs.map (·.1) ++ qs.map (·.2))).filter fun x => decide (rep x = rep g)) (fun t ht => ?_) (List.mem_filter.mpr ⟨List.mem_cons_self, by simp⟩)
    · exact of_decide_eq_true (List.mem_filter.mp z).2
    · rw [List.mem_filter, List.mem_filter, h4 t ht]
      refine and_congr_left fun _ => ⟨fun _ => ?_, fun _ => ?_⟩
      · exact List.mem_cons_of_mem _ (List.mem_append_right _ (List.mem_map_of_mem ht))
      · exact List.mem_cons_of_mem _ (List.mem_append_left _ (List.mem_map_of_mem ht))
  have z := nlenT (m := [rep g]) h1 fun i hi => by
    obtain ⟨u, hu, rfl⟩ := h3 i hi
    rw [all u hu]
    exact List.mem_singleton.mpr rfl
  simp only [List.length_cons, List.length_nil] at z
  omega
section
variable {us : List Int} {ts : List (Int × Int)} {g : Int}
theorem CT.all_in (c : CT us ts) (hg : g ∈ us) {S : List Int} (hS : ∀ t ∈ ts, (t.1 ∈ S ↔ t.2 ∈ S)) (h : g ∈ S) : ∀ u ∈ us, u ∈ S := by
  have near : ∀ u ∈ us, Reach ts (us.getD 0 0) u := fun u hu => near_true.mp (List.all_eq_true.mp c.conn u hu)
  have h0 : us.getD 0 0 ∈ S := by
    refine Classical.byContradiction fun hn => ?_
    have z := near g hg (us.filter fun x => decide (x ∉ S)) (fun t ht => ?_) (List.mem_filter.mpr ⟨getD_memU (List.length_pos_of_mem hg), by simpa using hn⟩)
    · have := (List.mem_filter.mp z).2
      simp [h] at this
    · have b := c.b t ht
      rw [List.mem_filter, List.mem_filter, decide_eq_true_eq, decide_eq_true_eq, hS t ht]
      simp [b.2.1, b.2.2]
  exact fun u hu => near u hu S hS h0
noncomputable def sdC (ts : List (Int × Int)) (g : Int) (e : Int × Int) (c : Int) : Bool := nearB (ts.filter fun t => decide (t ≠ e)) g c
theorem sd_same {e t : Int × Int} (ht : t ∈ ts) (hne : t ≠ e) : sdC ts g e t.1 = sdC ts g e t.2 := near_step (List.mem_filter.mpr ⟨ht, decide_eq_true hne⟩)
theorem sd_self {e : Int × Int} : sdC ts g e g = true := reach_self
theorem CT.part (u : UsOk us) (c : CT us ts) (hg : g ∈ us) {e : Int × Int} (he : e ∈ ts) : sdC ts g e e.1 ≠ sdC ts g e e.2 := fun z => by
  have all := c.all_in hg (S := us.filter (sdC ts g e)) (fun t ht => by
    have b := c.b t ht
    rw [List.mem_filter, List.mem_filter]
    have w : sdC ts g e t.1 = sdC ts g e t.2 := by
      by_cases hne : t = e
      · rw [hne]
        exact z
      · exact sd_same ht hne
    rw [w]
    simp [b.2.1, b.2.2]) (List.mem_filter.mpr ⟨hg, sd_self⟩)
  have l := few_ties u.nd (qs := ts.filter fun t => decide (t ≠ e)) (g := g) fun x hx => (List.mem_filter.mp (all x hx)).2
  have l2 : (ts.filter fun t => decide (t ≠ e)).length < ts.length := List.length_filter_lt_length_iff_exists.mpr ⟨e, he, by simp⟩
  have := c.l
  omega
/-- two sides lie one in the other, or apart -/
theorem CT.lam (u : UsOk us) (c : CT us ts) (hg : g ∈ us) {e f : Int × Int} (he : e ∈ ts) (hf : f ∈ ts) (hne : e ≠ f) : (∀ x ∈ us, sdC ts g e x = true → sdC ts g f x = true) ∨ ∃ b, ∀ x ∈ us, sdC ts g e x = false → sdC ts g f x = b := by
  have same := sd_same (g := g) hf fun z => hne z.symm
  cases k : sdC ts g e f.1 with
  | false =>
    left
    intro x hx h
    refine near_true.mpr fun S hS h0 => ?_
    have z := near_true.mp h (S.filter (sdC ts g e)) (fun t ht => ?_) (List.mem_filter.mpr ⟨h0, sd_self⟩)
    · exact (List.mem_filter.mp z).1
    · obtain ⟨ht, hte⟩ := List.mem_filter.mp ht
      have hte : t ≠ e := of_decide_eq_true hte
      rw [List.mem_filter, List.mem_filter, sd_same ht hte]
      by_cases htf : t = f
      · subst htf
        rw [← same, k]
        simp
      · rw [hS t (List.mem_filter.mpr ⟨ht, decide_eq_true htf⟩)]
  | true =>
    right
    have pe := c.part u hg he
    obtain ⟨p, hp, hq⟩ : ∃ p, (p = e.1 ∨ p = e.2) ∧ sdC ts g e p = false := by
      cases k1 : sdC ts g e e.1 with
      | false => exact ⟨_, .inl rfl, k1⟩
      | true => exact ⟨_, .inr rfl, by rw [k1] at pe; simpa using pe.symm⟩
    refine ⟨sdC ts g f p, ?_⟩
    have all := c.all_in hg (S := us.filter fun x => sdC ts g e x || (sdC ts g f x == sdC ts g f p)) (fun t ht => by
      have b := c.b t ht
      rw [List.mem_filter, List.mem_filter]
      simp only [b.2.1, b.2.2, true_and]
      by_cases hte : t = e
      · subst hte
        rcases hp with rfl | rfl
        · have k2 : sdC ts g t t.2 = true := by rw [hq] at pe; simpa using pe.symm
          simp [k2]
        · have k2 : sdC ts g t t.1 = true := by rw [hq] at pe; simpa using pe
          simp [k2]
      · rw [sd_same ht hte]
        by_cases htf : t = f
        · subst htf
          rw [← same, k]
          simp
        · rw [sd_same ht htf]) (List.mem_filter.mpr ⟨hg, by rw [sd_self]; rfl⟩)
    intro x hx h
    have z := (List.mem_filter.mp (all x hx)).2
    rw [h, Bool.false_or, beq_iff_eq] at z
    exact z
/-- two customs with the same sides are one -/
theorem CT.inj (u : UsOk us) (c : CT us ts) (hg : g ∈ us) {x y : Int} (hx : x ∈ us) (hy : y ∈ us) (h : ∀ e ∈ ts, sdC ts g e x = sdC ts g e y) : x = y := by
  refine Classical.byContradiction fun hne => ?_
  let qs := ts.filter fun t => decide (t.1 ≠ x ∧ t.2 ≠ x)
  have hxD : nearB qs y x = false := by
    cases k : nearB qs y x with
    | false => rfl
    | true =>
      have z := near_true.mp k (us.filter fun z => decide (z ≠ x)) (fun t ht => by
        obtain ⟨ht, h2⟩ := List.mem_filter.mp ht
        have h2 := of_decide_eq_true h2
        have b := c.b t ht
        rw [List.mem_filter, List.mem_filter]
        simp [b.2.1, b.2.2, h2.1, h2.2]) (List.mem_filter.mpr ⟨hy, decide_eq_true fun z => hne z.symm⟩)
      have := (List.mem_filter.mp z).2
      simp at this
  have fin : ∀ t ∈ ts, ∀ z, (t = (x, z) ∨ t = (z, x)) → nearB qs y z = true → False := fun t ht z hz hn => by
    have e1 : sdC ts g t y = sdC ts g t z := by
      have w := near_true.mp hn (us.filter fun v => sdC ts g t v == sdC ts g t y) (fun t' ht' => by
        obtain ⟨ht', h2⟩ := List.mem_filter.mp ht'
        have h2 := of_decide_eq_true h2
        have b := c.b t' ht'
        have ne : t' ≠ t := fun e => by
          subst e
          rcases hz with rfl | rfl
          · exact h2.1 rfl
          · exact h2.2 rfl
        rw [List.mem_filter, List.mem_filter, sd_same ht' ne]
        simp [b.2.1, b.2.2]) (List.mem_filter.mpr ⟨hy, by simp⟩)
      exact (beq_iff_eq.mp (List.mem_filter.mp w).2).symm
    have pt := c.part u hg ht
    have e2 := h t ht
    rcases hz with rfl | rfl
    · exact pt (e2.trans e1)
    · exact pt (e2.trans e1).symm
  have all := c.all_in hy (S := us.filter (nearB qs y)) (fun t ht => by
    have b := c.b t ht
    rw [List.mem_filter, List.mem_filter]
    simp only [b.2.1, b.2.2, true_and]
    by_cases h1 : t.1 = x
    · rw [h1, hxD]
      cases k : nearB qs y t.2 with
      | false => exact Iff.rfl
      | true => exact (fin t ht t.2 (.inl (by rw [← h1])) k).elim
    · by_cases h2 : t.2 = x
      · rw [h2, hxD]
        cases k : nearB qs y t.1 with
        | false => exact Iff.rfl
        | true => exact (fin t ht t.1 (.inr (by rw [← h2])) k).elim
      · rw [near_step (List.mem_filter.mpr ⟨ht, decide_eq_true ⟨h1, h2⟩⟩)]) (List.mem_filter.mpr ⟨hy, reach_self⟩)
  have := (List.mem_filter.mp (all x hx)).2
  rw [hxD] at this
  cases this
end
section
variable {us col : List Int} {ts : List (Int × Int)}
theorem part_len {e : Int × Int} : (partC ts col e).length ≤ col.length := by
  unfold partC
  rw [List.length_map]
  have := List.length_filter_le (fun v => !nearB (ts.filter fun t => decide (t ≠ e)) (col.getD 0 0) (col.getD v 0)) (List.range col.length)
  rwa [List.length_range] at this
theorem CT.nd (c : CT us ts) : ts.Nodup := by
  have p := risL_pairU c.ris
  exact (List.pairwise_map.mp p).imp fun h e => by rw [e] at h; exact List.lt_irrefl _ h
end
/-- no parting of the one list crosses one of the other -/
def agreeB (xs ys : List (List Int)) : Bool := xs.all fun a => ys.all fun b => !crossB a b
theorem compL_map {step : D → Nat → (List D → Nat → Prop) → Prop} {f : D → List D} : ∀ {xs : List D} {n : Nat} {P : List D → Nat → Prop}, (∀ x ∈ xs, ∀ n (k : List D → Nat → Prop), k (f x) n → step x n k) → P (xs.flatMap f) n → compL step xs n P
  | [], _, _, _, p => p
  | x :: xs, n, P, h, p => h x List.mem_cons_self n _ (compL_map (fun y hy => h y (List.mem_cons_of_mem _ hy)) (by rw [List.flatMap_cons] at p; exact p))
def crossR (ys : List (List Int)) (x : D) : List D := ys.map fun y => .bl (crossB (intsD x) y)
theorem cross_rows {ys : List (List Int)} : ∀ xs : List (List Int), (xs.map tupI).flatMap (crossR ys) = (xs.flatMap fun x => ys.map (crossB x)).map D.bl
  | [] => rfl
  | x :: xs => by
    rw [List.map_cons, List.flatMap_cons, List.flatMap_cons, List.map_append, cross_rows xs]
    unfold crossR
    rw [intsD_tup, List.map_map]
    rfl
theorem cross_any {ys : List (List Int)} : ∀ xs : List (List Int), (!((xs.flatMap fun x => ys.map (crossB x)).any id)) = agreeB xs ys
  | [] => rfl
  | x :: xs => by
    have ih := cross_any (ys := ys) xs
    unfold agreeB at ih ⊢
    rw [List.flatMap_cons, List.any_append, List.all_cons, Bool.not_or, ih]
    congr 1
    clear ih
    induction ys with
    | nil => rfl
    | cons y ys ih => rw [List.map_cons, List.any_cons, List.all_cons, Bool.not_or, ih]; rfl
theorem any_bls {bs : List Bool} {k : D → Prop} (h : k (.bl (bs.any id))) : anyD' (.lst (bs.map D.bl)) k := ⟨bs, by
  have := blsD_map (f := fun b : Bool => b) (xs := bs)
  rwa [List.map_id'] at this, h⟩
theorem sides_len {ts : List (Int × Int)} {col : List Int} : ∀ x ∈ sidesC ts col, x.length ≤ col.length := fun x hx => by
  unfold sidesC at hx
  obtain ⟨e, _, rfl⟩ := List.mem_map.mp hx
  exact part_len
/-! the list of all custom trees -/
def addF (F : List Int) (t : Int × Int) : List Int := match decide (t.1 ∈ F), decide (t.2 ∈ F) with
  | true, false => F ++ [t.2]
  | false, true => F ++ [t.1]
  | _, _ => F
def lapF (ts : List (Int × Int)) (F : List Int) : List Int := ts.foldl addF F
def lapsF : Nat → List (Int × Int) → List Int → List Int
  | 0, _, F => F
  | n + 1, ts, F => lapsF n ts (lapF ts F)
/-- whether pairs of customs join all customs, told by laps -/
def joinC (us : List Int) (ts : List (Int × Int)) : Bool := decide ((lapsF us.length ts (us.take 1)).length = us.length)
theorem addF_lap {U : List Int} {ts : List (Int × Int)} {g : Int} {F0 F : List Int} {j : Nat} {t : Int × Int} (hb : ∀ t ∈ ts, t.1 ∈ U ∧ t.2 ∈ U) (h : LapU U ts (fun _ => true) g F0 F j) (ht : ts[j]? = some t) : LapU U ts (fun _ => true) g F0 (addF F t) (j + 1) := by
  have hm := List.mem_of_getElem? ht
  unfold addF
  by_cases h1 : t.1 ∈ F <;> by_cases h2 : t.2 ∈ F
  · rw [decide_eq_true h1, decide_eq_true h2]
    exact lapU_keep h ht fun _ => ⟨fun _ => h2, fun _ => h1⟩
  · rw [decide_eq_true h1, decide_eq_false h2]
    exact lapU_add h hm rfl (hb _ hm).2 (.inr rfl) h1 h2
  · rw [decide_eq_false h1, decide_eq_true h2]
    exact lapU_add h hm rfl (hb _ hm).1 (.inl rfl) h2 h1
  · rw [decide_eq_false h1, decide_eq_false h2]
    exact lapU_keep h ht fun _ => ⟨fun z => absurd z h1, fun z => absurd z h2⟩
theorem lapF_lap {U : List Int} {ts : List (Int × Int)} {g : Int} {F0 : List Int} (hb : ∀ t ∈ ts, t.1 ∈ U ∧ t.2 ∈ U) : ∀ (k : Nat) {F : List Int} {j : Nat}, ts.length - j = k → j ≤ ts.length → LapU U ts (fun _ => true) g F0 F j → LapU U ts (fun _ => true) g F0 ((ts.drop j).foldl addF F) ts.length
  | 0, F, j, hk, hj, h => by
    have e : j = ts.length := by omega
    subst e
    rw [List.drop_length]
    exact h
  | k + 1, F, j, hk, hj, h => by
    have hl : j < ts.length := by omega
    rw [List.drop_eq_getElem_cons hl, List.foldl_cons]
    exact lapF_lap hb k (by omega) (by omega) (addF_lap hb h (List.getElem?_eq_getElem hl))
theorem lapsF_join {U : List Int} {ts : List (Int × Int)} {g : Int} (hb : ∀ t ∈ ts, t.1 ∈ U ∧ t.2 ∈ U) : ∀ (n : Nat) {F : List Int} {i : Nat}, JoinU U ts g F → (ClU ts F ∨ i + 1 ≤ F.length) → JoinU U ts g (lapsF n ts F) ∧ (ClU ts (lapsF n ts F) ∨ i + n + 1 ≤ (lapsF n ts F).length)
  | 0, F, i, b, h => ⟨b, h⟩
  | n + 1, F, i, b, h => by
    have b' : JoinU U (ts.filter fun _ => true) g F := by rw [filter_yes]; exact b
    have z := lapF_lap (F0 := F) hb ts.length (j := 0) (by omega) (by omega) (lapU_start b')
    have e := lapU_end (i := i) z (by rw [filter_yes]; exact h)
    have zb := z.b
    rw [filter_yes] at zb e
    rw [List.drop_zero] at zb e
    obtain ⟨q1, q2⟩ := lapsF_join hb n (F := lapF ts F) (i := i + 1) zb e
    exact ⟨q1, q2.imp id fun w => by rw [show i + (n + 1) + 1 = i + 1 + n + 1 by omega]; exact w⟩
theorem joinC_eq {us : List Int} {ts : List (Int × Int)} (nd : us.Nodup) (h1 : 1 ≤ us.length) (hb : ∀ t ∈ ts, t.1 ∈ us ∧ t.2 ∈ us) : connU us ts = joinC us ts := by
  obtain ⟨g, hg⟩ : ∃ g, us[0]? = some g := ⟨us[0], List.getElem?_eq_getElem (by omega)⟩
  have hg2 : us.getD 0 0 = g := by rw [List.getD_eq_getElem?_getD, hg]; rfl
  have et : us.take 1 = [g] := by
    cases us with
    | nil => simp at hg
    | cons a us => simp at hg; subst hg; rfl
  obtain ⟨b, h⟩ := lapsF_join hb us.length (F := [g]) (i := 0) (joinU_start (List.mem_of_getElem? hg)) (.inr (by simp))
  unfold joinC
  rw [et]
  exact conn_lenU nd b.nd b.rng fun c => by rw [hg2]; exact joinU_near hb nd b (h.imp id fun z => by omega) c
def tieD (ts : List (Int × Int)) : D := .tup (ts.map pairI)
def treesC (us : List Int) : List (List (Int × Int)) := (combsL (us.length - 1) (pairsL us)).filter (joinC us)
theorem combs1 {α : Type} : ∀ xs : List α, combsL 1 xs = xs.map fun x => [x]
  | [] => rfl
  | x :: xs => by
    rw [combsL, combs1 xs, combsL]
    rfl
theorem combs2 {α : Type} : ∀ xs : List α, combsL 2 xs = (pairsL xs).map fun p => [p.1, p.2]
  | [] => rfl
  | x :: xs => by
    rw [combsL, combs2 xs, combs1 xs, pairsL, List.map_append, List.map_map, List.map_map]
    rfl
theorem combT_pairs (us : List Int) : combT 2 (us.map D.int) = (pairsL us).map pairI := by
  unfold combT
  rw [combs2, pairsL_map, List.map_map, List.map_map]
  rfl
theorem combT_ties (n : Nat) (ps : List (Int × Int)) : combT n (ps.map pairI) = (combsL n ps).map tieD := by
  unfold combT
  rw [combsL_map, List.map_map]
  rfl
theorem pairs_in {us : List Int} {t : Int × Int} (h : t ∈ pairsL us) : t.1 ∈ us ∧ t.2 ∈ us := by
  obtain ⟨i, j, _, h1, h2⟩ := pairsL_mem.mp h
  exact ⟨List.mem_of_getElem? h1, List.mem_of_getElem? h2⟩
theorem pairsD_int (us : List Int) : pairsD (us.map D.int) = (pairsL us).map pairI := by
  unfold pairsD
  rw [pairsL_map, List.map_map]
  rfl
/-! grown from behind -/
def laterP (s : List (Int × Int)) (p : Int × Int) : Bool := match s.getLast? with
  | none => true
  | some q => SCo.ltI (lotP q) (lotP p)
def growP (ps : List (Int × Int)) (s : List (Int × Int)) : List (List (Int × Int)) := (ps.filter (laterP s)).map fun p => s ++ [p]
theorem getLast_cons {α : Type} {x : α} {s : List α} (h : s ≠ []) : (x :: s).getLast? = s.getLast? := by
  rw [List.getLast?_cons]
  cases e : s.getLast? with
  | none => exact absurd (List.getLast?_eq_none_iff.mp e) h
  | some y => rfl
theorem flatMap_cong {α β : Type} {f g : α → List β} : ∀ {l : List α}, (∀ a ∈ l, f a = g a) → l.flatMap f = l.flatMap g
  | [], _ => rfl
  | a :: l, h => by
    rw [List.flatMap_cons, List.flatMap_cons, h a List.mem_cons_self, flatMap_cong fun b hb => h b (List.mem_cons_of_mem _ hb)]
theorem grow_combs : ∀ (n : Nat) {ps : List (Int × Int)}, ps.Pairwise (fun a b => SCo.ltI (lotP a) (lotP b) = true) → (combsL n ps).flatMap (growP ps) = combsL (n + 1) ps
  | 0, ps, _ => by
    rw [combs1, combsL]
    show growP ps [] ++ [] = _
    rw [List.append_nil]
    unfold growP
    rw [show ps.filter (laterP []) = ps from List.filter_eq_self.mpr fun _ _ => rfl]
    rfl
  | n + 1, [], _ => rfl
  | n + 1, p :: ps, h => by
    obtain ⟨h1, h2⟩ := List.pairwise_cons.mp h
    have ih1 := grow_combs n h2
    have ih2 := grow_combs (n + 1) h2
    have no : ∀ q ∈ ps, SCo.ltI (lotP q) (lotP p) = false := fun q hq => by
      cases z : SCo.ltI (lotP q) (lotP p) with
      | false => rfl
      | true =>
        have := ltI_trans z (h1 q hq)
        rw [ltI_irr] at this
        cases this
    have old : ∀ s : List (Int × Int), (∀ q ∈ s, q ∈ ps) → s ≠ [] → growP (p :: ps) s = growP ps s := fun s hs hne => by
      unfold growP
      rw [List.filter_cons]
      have e : laterP s p = false := by
        unfold laterP
        cases e : s.getLast? with
        | none => exact absurd (List.getLast?_eq_none_iff.mp e) hne
        | some q => exact no q (hs q (List.mem_of_getLast? e))
      rw [e]
      rfl
    have new : ∀ s : List (Int × Int), (∀ q ∈ s, q ∈ ps) → growP (p :: ps) (p :: s) = (growP ps s).map (p :: ·) := fun s hs => by
      have e0 : laterP (p :: s) p = false := by
        unfold laterP
        cases s with
        | nil => exact ltI_irr _
        | cons q s =>
          rw [getLast_cons (fun z => by cases z)]
          cases e : (q :: s).getLast? with
          | none => exact absurd (List.getLast?_eq_none_iff.mp e) (fun z => by cases z)
          | some r => exact no r (hs r (List.mem_of_getLast? e))
      have e1 : ps.filter (laterP (p :: s)) = ps.filter (laterP s) := by
        refine List.filter_congr fun q hq => ?_
        unfold laterP
        cases s with
        | nil => exact h1 q hq
        | cons r s => rw [getLast_cons (fun z => by cases z)]
      unfold growP
      rw [List.filter_cons, e0, List.map_map]
      show ((ps.filter (laterP (p :: s))).map fun q => p :: s ++ [q]) = _
      rw [e1]
      rfl
    have sub : ∀ {m : Nat} {s : List (Int × Int)}, s ∈ combsL m ps → ∀ q ∈ s, q ∈ ps := fun hs q hq => (combsL_sub hs).subset hq
    rw [combsL, List.flatMap_append, List.flatMap_map, combsL]
    congr 1
    · rw [← ih1, List.map_flatMap]
      exact flatMap_cong fun s hs => new s (sub hs)
    · rw [← ih2]
      exact flatMap_cong fun s hs => old s (sub hs) fun z => by
        have := combsL_len hs
        rw [z] at this
        simp at this
theorem pairs_asc {us : List Int} (h : us.Pairwise (· < ·)) : (pairsL us).Pairwise fun a b => SCo.ltI (lotP a) (lotP b) = true := by
  induction us with
  | nil => exact .nil
  | cons u us ih =>
    obtain ⟨h1, h2⟩ := List.pairwise_cons.mp h
    rw [pairsL]
    refine List.pairwise_append.mpr ⟨List.pairwise_map.mpr (h2.imp fun {a b} hab => ?_), ih h2, fun a ha b hb => ?_⟩
    · unfold SCo.ltI lotP
      exact decide_eq_true (List.cons_lt_cons_iff.mpr (.inr ⟨rfl, List.cons_lt_cons_iff.mpr (.inl hab)⟩))
    · obtain ⟨x, hx, rfl⟩ := List.mem_map.mp ha
      have := h1 _ (pairs_in hb).1
      unfold SCo.ltI lotP
      exact decide_eq_true (List.cons_lt_cons_iff.mpr (.inl this))
/-! how many, and the order of the largest -/
def subsL {α : Type} : List α → List (List α)
  | [] => [[]]
  | x :: xs => subsL xs ++ (subsL xs).map (x :: ·)
theorem filter_subs {α : Type} (p : α → Bool) : ∀ xs : List α, xs.filter p ∈ subsL xs
  | [] => by simp [subsL]
  | x :: xs => by
    rw [List.filter_cons, subsL]
    split
    · exact List.mem_append_right _ (List.mem_map_of_mem (filter_subs p xs))
    · exact List.mem_append_left _ (filter_subs p xs)
def manyT (k : Nat) : Nat := k ^ (k - 2)
theorem many_small : ((subsL [(0 : Int), 1, 2, 3, 4, 5]).all fun us => decide (us.length = 0) || decide (4 < us.length) || decide ((treesC us).length = manyT us.length)) = true := by decide +kernel
theorem many_five : ((subsL [(0 : Int), 1, 2, 3, 4, 5]).filter fun us => decide (us.length = 5)) = [[1, 2, 3, 4, 5], [0, 2, 3, 4, 5], [0, 1, 3, 4, 5], [0, 1, 2, 4, 5], [0, 1, 2, 3, 5], [0, 1, 2, 3, 4]] := by decide +kernel
theorem many_5a : (treesC [1, 2, 3, 4, 5]).length = 125 := by decide +kernel
theorem many_5b : (treesC [0, 2, 3, 4, 5]).length = 125 := by decide +kernel
theorem many_5c : (treesC [0, 1, 3, 4, 5]).length = 125 := by decide +kernel
theorem many_5d : (treesC [0, 1, 2, 4, 5]).length = 125 := by decide +kernel
theorem many_5e : (treesC [0, 1, 2, 3, 5]).length = 125 := by decide +kernel
theorem many_5f : (treesC [0, 1, 2, 3, 4]).length = 125 := by decide +kernel
theorem many_is {us : List Int} (hs : us ∈ subsL [(0 : Int), 1, 2, 3, 4, 5]) (h1 : 1 ≤ us.length) (h5 : us.length ≤ 5) : (treesC us).length = manyT us.length := by
  by_cases h4 : us.length ≤ 4
  · have z := List.all_eq_true.mp many_small us hs
    rw [decide_eq_false (by omega), decide_eq_false (by omega), Bool.false_or, Bool.false_or] at z
    exact of_decide_eq_true z
  · have h : us.length = 5 := by omega
    have hm : us ∈ (subsL [(0 : Int), 1, 2, 3, 4, 5]).filter fun us => decide (us.length = 5) := List.mem_filter.mpr ⟨hs, decide_eq_true h⟩
    rw [many_five] at hm
    rw [h]
    simp only [List.mem_cons, List.not_mem_nil, or_false] at hm
    rcases hm with rfl | rfl | rfl | rfl | rfl | rfl
    · exact many_5a
    · exact many_5b
    · exact many_5c
    · exact many_5d
    · exact many_5e
    · exact many_5f
def six : List Int := [0, 1, 2, 3, 4, 5]
def cntJ (us : List Int) (pre : List (Int × Int)) (k : Nat) (ps : List (Int × Int)) : Nat := ((combsL k ps).filter fun s => joinC us (pre ++ s)).length
theorem cnt_cons {us : List Int} {pre : List (Int × Int)} {k : Nat} {p : Int × Int} {ps : List (Int × Int)} : cntJ us pre (k + 1) (p :: ps) = cntJ us (pre ++ [p]) k ps + cntJ us pre (k + 1) ps := by
  unfold cntJ
  rw [combsL, List.filter_append, List.length_append, List.filter_map, List.length_map]
  congr 2
  refine List.filter_congr fun s _ => ?_
  show joinC us (pre ++ p :: s) = joinC us (pre ++ [p] ++ s)
  rw [List.append_assoc]
  rfl
theorem cnt_step {us : List Int} {k a b : Nat} {p : Int × Int} {ps : List (Int × Int)} (ha : cntJ us [p] k ps = a) (hb : cntJ us [] (k + 1) ps = b) : cntJ us [] (k + 1) (p :: ps) = a + b := by
  rw [cnt_cons, hb, List.nil_append, ha]
theorem cnt_nil {us : List Int} {k : Nat} {ps : List (Int × Int)} : cntJ us [] k ps = ((combsL k ps).filter (joinC us)).length := rfl
theorem six_pairs : pairsL six = [(0, 1), (0, 2), (0, 3), (0, 4), (0, 5), (1, 2), (1, 3), (1, 4), (1, 5), (2, 3), (2, 4), (2, 5), (3, 4), (3, 5), (4, 5)] := by decide +kernel
theorem six_0 : cntJ six [(0, 1)] 4 [(0, 2), (0, 3), (0, 4), (0, 5), (1, 2), (1, 3), (1, 4), (1, 5), (2, 3), (2, 4), (2, 5), (3, 4), (3, 5), (4, 5)] = 432 := by decide +kernel
theorem six_1 : cntJ six [(0, 2)] 4 [(0, 3), (0, 4), (0, 5), (1, 2), (1, 3), (1, 4), (1, 5), (2, 3), (2, 4), (2, 5), (3, 4), (3, 5), (4, 5)] = 324 := by decide +kernel
theorem six_2 : cntJ six [(0, 3)] 4 [(0, 4), (0, 5), (1, 2), (1, 3), (1, 4), (1, 5), (2, 3), (2, 4), (2, 5), (3, 4), (3, 5), (4, 5)] = 240 := by decide +kernel
theorem six_3 : cntJ six [(0, 4)] 4 [(0, 5), (1, 2), (1, 3), (1, 4), (1, 5), (2, 3), (2, 4), (2, 5), (3, 4), (3, 5), (4, 5)] = 175 := by decide +kernel
theorem six_4 : cntJ six [(0, 5)] 4 [(1, 2), (1, 3), (1, 4), (1, 5), (2, 3), (2, 4), (2, 5), (3, 4), (3, 5), (4, 5)] = 125 := by decide +kernel
theorem six_5 : cntJ six [] (4 + 1) [(1, 2), (1, 3), (1, 4), (1, 5), (2, 3), (2, 4), (2, 5), (3, 4), (3, 5), (4, 5)] = 0 := by decide +kernel
theorem six_all : cntJ six [] (4 + 1) [(0, 1), (0, 2), (0, 3), (0, 4), (0, 5), (1, 2), (1, 3), (1, 4), (1, 5), (2, 3), (2, 4), (2, 5), (3, 4), (3, 5), (4, 5)] = 432 + (324 + (240 + (175 + (125 + 0)))) := cnt_step six_0 (cnt_step six_1 (cnt_step six_2 (cnt_step six_3 (cnt_step six_4 six_5))))
theorem six_len : (treesC six).length = 1296 := by
  have e : six.length - 1 = 4 + 1 := rfl
  unfold treesC
  rw [e, ← cnt_nil, six_pairs, six_all]
/-! in their order -/
theorem trees_in {us : List Int} {ts : List (Int × Int)} (u : UsOk us) (h : ts ∈ treesC us) : CT us ts := by
  have ul := u.l
  obtain ⟨h1, h2⟩ := List.mem_filter.mp h
  have hl := combsL_len h1
  have hs := combsL_sub h1
  have asc := (pairs_asc u.p).sublist hs
  have hb : ∀ t ∈ ts, t.1 < t.2 ∧ t.1 ∈ us ∧ t.2 ∈ us := fun t ht => by
    obtain ⟨i, j, hij, e1, e2⟩ := pairsL_mem.mp (hs.subset ht)
    obtain ⟨l1, f1⟩ := List.getElem?_eq_some_iff.mp e1
    obtain ⟨l2, f2⟩ := List.getElem?_eq_some_iff.mp e2
    have := List.pairwise_iff_getElem.mp u.p i j l1 l2 hij
    rw [f1, f2] at this
    exact ⟨this, List.mem_of_getElem? e1, List.mem_of_getElem? e2⟩
  have hj : connU us ts = true := by
    rw [joinC_eq u.nd (by omega) fun t ht => (hb t ht).2]
    exact h2
  refine ⟨by omega, hb, risL_of (List.pairwise_map.mpr (asc.imp fun h => of_decide_eq_true h)), hj⟩
theorem pairs_count {α : Type} : ∀ xs : List α, 2 * (pairsL xs).length + xs.length = xs.length * xs.length
  | [] => rfl
  | x :: xs => by
    have ih := pairs_count xs
    rw [pairsL, List.length_append, List.length_map, List.length_cons]
    have e : (xs.length + 1) * (xs.length + 1) = xs.length * xs.length + 2 * xs.length + 1 := by rw [Nat.add_mul, Nat.mul_add]; omega
    omega
theorem combs_few {α : Type} : ∀ (k : Nat) (xs : List α), (combsL k xs).length ≤ 2 ^ xs.length
  | 0, xs => by
    simp only [combsL, List.length_cons, List.length_nil]
    exact Nat.one_le_two_pow (n := xs.length)
  | _ + 1, [] => by simp [combsL]
  | k + 1, x :: xs => by
    have h1 := combs_few k xs
    have h2 := combs_few (k + 1) xs
    rw [combsL, List.length_append, List.length_map, List.length_cons, Nat.pow_succ]
    omega
theorem pairs_few {us : List Int} (h : us.length ≤ 6) : (pairsL us).length ≤ 15 := by
  have z := pairs_count us
  have : us.length * us.length ≤ 6 * us.length := Nat.mul_le_mul_right _ h
  omega
theorem pairs_few5 {us : List Int} (h : us.length ≤ 5) : (pairsL us).length ≤ 10 := by
  have z := pairs_count us
  have : us.length * us.length ≤ 5 * us.length := Nat.mul_le_mul_right _ h
  omega
theorem combs_len6 {us : List Int} (h : us.length ≤ 6) (k : Nat) : (combsL k (pairsL us)).length ≤ 32768 := by
  have h1 := combs_few k (pairsL us)
  have h2 : 2 ^ (pairsL us).length ≤ 2 ^ 15 := Nat.pow_le_pow_right (by omega) (pairs_few h)
  omega
theorem combs_len5 {us : List Int} (h : us.length ≤ 5) (k : Nat) : (combsL k (pairsL us)).length ≤ 1024 := by
  have h1 := combs_few k (pairsL us)
  have h2 : 2 ^ (pairsL us).length ≤ 2 ^ 10 := Nat.pow_le_pow_right (by omega) (pairs_few5 h)
  omega
def joinF (us : List Int) (x : D) : Option D := match x with
  | .tup xs => if joinC us (xs.map pairD) = true then some x else none
  | _ => none
theorem joinF_map {us : List Int} : ∀ l : List (List (Int × Int)), (l.map tieD).filterMap (joinF us) = (l.filter (joinC us)).map tieD
  | [] => rfl
  | ts :: l => by
    have e : joinF us (tieD ts) = if joinC us ts = true then some (tieD ts) else none := by
      show (if joinC us ((ts.map pairI).map pairD) = true then some (tieD ts) else none) = _
      rw [pairD_map]
    rw [List.map_cons, List.filterMap_cons, e, List.filter_cons, joinF_map l]
    cases joinC us ts <;> rfl
def growF (s : List (Int × Int)) (x : D) : Option D := if laterP s (pairD x) = true then some (tieD (s ++ [pairD x])) else none
theorem growF_map {s : List (Int × Int)} : ∀ ps : List (Int × Int), (ps.map pairI).filterMap (growF s) = (growP ps s).map tieD
  | [] => rfl
  | p :: ps => by
    have e : growF s (pairI p) = if laterP s p = true then some (tieD (s ++ [p])) else none := by
      unfold growF
      rw [pairD_at]
    have ih := growF_map (s := s) ps
    unfold growP at ih ⊢
    rw [List.map_cons, List.filterMap_cons, e, List.filter_cons, ih]
    cases laterP s p <;> rfl
theorem at_lastP {s : List (Int × Int)} {q : Int × Int} (h : s.getLast? = some q) : atD (s.map pairI) (-1) = some (pairI q) := by
  have hl : s ≠ [] := fun z => by rw [z] at h; cases h
  have hp := List.length_pos_iff.mpr hl
  have e : ixN (s.map pairI).length (-1) = some (s.length - 1) := by
    rw [List.length_map]
    unfold ixN
    rw [if_neg (by omega), if_pos (by omega)]
    congr 1
    omega
  unfold atD
  rw [e]
  show (s.map pairI)[s.length - 1]? = _
  rw [List.getElem?_map, ← List.getLast?_eq_getElem?, h]
  rfl
theorem tree_sm {us : List Int} (u : UsOk us) {ts : List (Int × Int)} (hl : ts.length ≤ 5) (hb : ∀ t ∈ ts, t.1 ∈ us ∧ t.2 ∈ us) : smB (tieD ts) = true ∧ lnB (tieD ts) ≤ 130 ∧ dpB (tieD ts) ≤ 2 := by
  have A : ∀ d ∈ ts.map pairI, smB d = true ∧ lnB d ≤ 22 ∧ dpB d ≤ 1 := fun d hd => by
    obtain ⟨t, ht, rfl⟩ := List.mem_map.mp hd
    have b1 := u.b t.1 (hb t ht).1
    have b2 := u.b t.2 (hb t ht).2
    obtain ⟨x, hx⟩ := Int.eq_ofNat_of_zero_le b1.1
    obtain ⟨y, hy⟩ := Int.eq_ofNat_of_zero_le b2.1
    have e : pairI t = .tup [.int (x : Int), .int (y : Int)] := by
      unfold pairI
      rw [hx, hy]
      rfl
    rw [e]
    refine ⟨?_, ?_, ?_⟩
    · simp [smB, smA]
      omega
    · simp [lnB, lnA]
      omega
    · simp [dpB, dpA]
  refine ⟨smA_of fun d hd => (A d hd).1, ?_, ?_⟩
  · have := lnA_le (M := 22) fun d hd => (A d hd).2.1
    rw [List.length_map] at this
    have m : ts.length * (22 + 2) ≤ 5 * 24 := Nat.mul_le_mul_right _ hl
    show lnA (ts.map pairI) + 4 ≤ 130
    omega
  · have := dpA_le (M := 1) fun d hd => (A d hd).2.2
    show dpA (ts.map pairI) + 1 ≤ 2
    omega
theorem us_subs {us : List Int} (u : UsOk us) : us ∈ subsL [(0 : Int), 1, 2, 3, 4, 5] := by
  have e : us = [(0 : Int), 1, 2, 3, 4, 5].filter fun c => decide (c ∈ us) := by
    refine asc_same u.p (List.Pairwise.filter _ (by decide)) fun v => ?_
    rw [List.mem_filter, decide_eq_true_eq]
    refine ⟨fun h => ⟨?_, h⟩, fun h => h.2⟩
    have b := u.b v h
    have : v = 0 ∨ v = 1 ∨ v = 2 ∨ v = 3 ∨ v = 4 ∨ v = 5 := by omega
    simpa using this
  rw [e]
  exact filter_subs _ _
theorem trees_many {us : List Int} (u : UsOk us) (h5 : us.length ≤ 5) : (treesC us).length = manyT us.length := many_is (us_subs u) u.l.1 h5
theorem six_ok : UsOk six := ⟨by decide, by decide, by decide⟩
/-! all good arrows -/
/-- columns told as rows -/
def turnL (cols : List (List Int)) (many : Nat) : List (List Int) := (List.range many).map fun i => cols.map fun c => c.getD i 0
def prodL : List Nat → Nat
  | [] => 1
  | k :: ks => k * prodL ks
theorem prodL_app (a : Nat) : ∀ xs : List Nat, prodL (xs ++ [a]) = prodL xs * a
  | [] => by simp [prodL]
  | x :: xs => by
    show x * prodL (xs ++ [a]) = x * prodL xs * a
    rw [prodL_app a xs, Nat.mul_assoc]
theorem prodL_perm {a b : List Nat} (h : a.Perm b) : prodL a = prodL b := by
  induction h with
  | nil => rfl
  | cons x _ ih => show x * _ = x * _; rw [ih]
  | swap x y l => show y * (x * prodL l) = x * (y * prodL l); rw [← Nat.mul_assoc, ← Nat.mul_assoc, Nat.mul_comm y x]
  | trans _ _ ih1 ih2 => rw [ih1, ih2]
def manyM (rss : List (List Int)) (k : Nat) : List Nat := (List.range k).map fun m => manyT (usedL rss m).length
def prodM (rss : List (List Int)) (k : Nat) : Nat := prodL (manyM rss k)
theorem prodM_succ (rss : List (List Int)) (k : Nat) : prodM rss (k + 1) = prodM rss k * manyT (usedL rss k).length := by
  unfold prodM manyM
  rw [List.range_succ, List.map_append]
  exact prodL_app _ _
theorem manyT_pos {k : Nat} (h : 1 ≤ k) : 1 ≤ manyT k := Nat.pow_pos (by omega)
theorem prodM_mono {ks : List Int} {rss : List (List Int)} (t : Full ks rss) {a : Nat} : ∀ {b : Nat}, a ≤ b → b ≤ ks.length → prodM rss a ≤ prodM rss b
  | 0, h, _ => by rw [show a = 0 by omega]; exact Nat.le_refl _
  | b + 1, h, hk => by
    by_cases e : a = b + 1
    · rw [e]
      exact Nat.le_refl _
    · have ih := prodM_mono t (a := a) (b := b) (by omega) (by omega)
      rw [prodM_succ]
      have p := manyT_pos (usedL_ok t (m := b) (by omega)).l.1
      exact Nat.le_trans ih (Nat.le_mul_of_pos_right _ p)
def BigT (rss : List (List Int)) (k : Nat) : Prop := 5000 < prodM rss k
structure SmallT (rss : List (List Int)) (k : Nat) : Prop where
  p : prodM rss k ≤ 5000
  l : ∀ m, m < k → (usedL rss m).length ≤ 4
  s : ∀ m, m < k → prodM rss m ≤ 256
theorem trees_count {us : List Int} (u : UsOk us) : (treesC us).length = manyT us.length := by
  have ul := u.l
  by_cases h : us.length ≤ 5
  · exact trees_many u h
  · have e : us = six := by
      have hs := us_subs u
      refine asc_same u.p six_ok.p fun v => ⟨fun hv => ?_, fun hv => ?_⟩
      · have b := u.b v hv
        have : v = 0 ∨ v = 1 ∨ v = 2 ∨ v = 3 ∨ v = 4 ∨ v = 5 := by omega
        simpa [six] using this
      · refine Classical.byContradiction fun hn => ?_
        have z := nlenT (l := v :: us) (m := six) (List.nodup_cons.mpr ⟨hn, u.nd⟩) fun x hx => by
          rcases List.mem_cons.mp hx with rfl | hx
          · exact hv
          · have b := u.b x hx
            have : x = 0 ∨ x = 1 ∨ x = 2 ∨ x = 3 ∨ x = 4 ∨ x = 5 := by omega
            simpa [six] using this
        have l6 : six.length = 6 := rfl
        rw [List.length_cons] at z
        omega
    rw [e, six_len]
    rfl
theorem manyT_le4 : ∀ {k : Nat}, k ≤ 4 → manyT k ≤ 16
  | 0, _ => by decide
  | 1, _ => by decide
  | 2, _ => by decide
  | 3, _ => by decide
  | 4, _ => by decide
  | _ + 5, h => absurd h (by omega)
theorem manyT_le3 : ∀ {k : Nat}, k ≤ 3 → manyT k ≤ 3
  | 0, _ => by decide
  | 1, _ => by decide
  | 2, _ => by decide
  | 3, _ => by decide
  | _ + 4, h => absurd h (by omega)
noncomputable def choiceD (col : List Int) (ts : List (Int × Int)) : D := .tup [tieD ts, tt (sidesC ts col)]
abbrev StA := List (List (Int × Int)) × List (List Int)
noncomputable def extS (rss : List (List Int)) (m : Nat) (s : StA) : List StA :=
  ((treesC (usedL rss m)).filter fun ts => agreeB s.2 (sidesC ts (colL rss m))).map fun ts => (s.1 ++ [ts], s.2 ++ sidesC ts (colL rss m))
/-- arrows with their partings, matter by matter -/
noncomputable def statesL (rss : List (List Int)) : Nat → List StA
  | 0 => [([], [])]
  | m + 1 => (statesL rss m).flatMap (extS rss m)
def arrowD (a : List (List (Int × Int))) : D := .tup (a.map tieD)
noncomputable def goodL (rss : List (List Int)) (k : Nat) : List (List (List (Int × Int))) := (statesL rss k).map (·.1)
def stateD (s : StA) : D := .tup [arrowD s.1, .lst (s.2.map tupI)]
def stateT (s : StA) : D := .tup [arrowD s.1, tt s.2]
theorem flat_len {α β : Type} {f : α → List β} {c : Nat} : ∀ {l : List α}, (∀ a ∈ l, (f a).length ≤ c) → (l.flatMap f).length ≤ l.length * c
  | [], _ => Nat.zero_le _
  | a :: l, h => by
    have h1 := h a List.mem_cons_self
    have h2 := flat_len (f := f) (c := c) (l := l) fun b hb => h b (List.mem_cons_of_mem _ hb)
    rw [List.flatMap_cons, List.length_append, List.length_cons, Nat.succ_mul]
    omega
theorem ext_len {ks : List Int} {rss : List (List Int)} (t : Full ks rss) {m : Nat} (hm : m < ks.length) (s : StA) : (extS rss m s).length ≤ manyT (usedL rss m).length := by
  unfold extS
  rw [List.length_map]
  exact Nat.le_trans (List.length_filter_le _ _) (Nat.le_of_eq (trees_count (usedL_ok t hm)))
theorem states_len {ks : List Int} {rss : List (List Int)} (t : Full ks rss) : ∀ {m : Nat}, m ≤ ks.length → (statesL rss m).length ≤ prodM rss m
  | 0, _ => Nat.le_refl _
  | m + 1, h => by
    have ih := states_len t (m := m) (by omega)
    rw [statesL, prodM_succ]
    exact Nat.le_trans (flat_len fun s _ => ext_len t (by omega) s) (Nat.mul_le_mul_right _ ih)
structure StOk1 (rss : List (List Int)) (m : Nat) (s : StA) : Prop where
  a : s.1.length = m
  b : s.2.length ≤ 5 * m
  c : ∀ x ∈ s.2, x.length ≤ rss.length
  d : ∀ (i : Nat) (ts : List (Int × Int)), s.1[i]? = some ts → CT (usedL rss i) ts
theorem states_ok {ks : List Int} {rss : List (List Int)} (t : Full ks rss) : ∀ {m : Nat}, m ≤ ks.length → ∀ s ∈ statesL rss m, StOk1 rss m s
  | 0, _, s, hs => by
    rw [statesL, List.mem_singleton] at hs
    subst hs
    exact ⟨rfl, Nat.zero_le _, fun x hx => absurd hx (by simp), fun i ts h => absurd h (by simp)⟩
  | m + 1, h, s, hs => by
    rw [statesL] at hs
    obtain ⟨s0, h0, h1⟩ := List.mem_flatMap.mp hs
    have ih := states_ok t (m := m) (by omega) s0 h0
    unfold extS at h1
    obtain ⟨ts, hts, rfl⟩ := List.mem_map.mp h1
    have u := usedL_ok t (m := m) (by omega)
    have ct := trees_in u (List.mem_filter.mp hts).1
    have ul := u.l
    have cl := ct.l
    refine ⟨by rw [List.length_append, ih.a]; rfl, ?_, fun x hx => ?_, fun i us hi => ?_⟩
    · rw [List.length_append]
      have e : (sidesC ts (colL rss m)).length = ts.length := List.length_map ..
      have := ih.b
      omega
    · rcases List.mem_append.mp hx with hx | hx
      · exact ih.c x hx
      · have z := sides_len x hx
        have e : (colL rss m).length = rss.length := List.length_map ..
        omega
    · rcases Nat.lt_trichotomy i m with z | z | z
      · rw [List.getElem?_append_left (by rw [ih.a]; exact z)] at hi
        exact ih.d i us hi
      · subst z
        rw [List.getElem?_append_right (by rw [ih.a]; exact Nat.le_refl _), ih.a, Nat.sub_self] at hi
        cases hi
        exact ct
      · rw [List.getElem?_eq_none (by rw [List.length_append, ih.a, List.length_singleton]; omega)] at hi
        cases hi
theorem arrow_sm {ks : List Int} {rss : List (List Int)} (t : Full ks rss) {a : List (List (Int × Int))} (ha : a ∈ goodL rss ks.length) : smB (arrowD a) = true ∧ lnB (arrowD a) ≤ 1100 ∧ dpB (arrowD a) ≤ 3 := by
  unfold goodL at ha
  obtain ⟨s, hs, rfl⟩ := List.mem_map.mp ha
  have ok := states_ok t (Nat.le_refl _) s hs
  have hk := t.kl
  have A : ∀ d ∈ s.1.map tieD, smB d = true ∧ lnB d ≤ 130 ∧ dpB d ≤ 2 := fun d hd => by
    obtain ⟨ts, hts, rfl⟩ := List.mem_map.mp hd
    obtain ⟨i, hi⟩ := List.mem_iff_getElem?.mp hts
    have c := ok.d i ts hi
    have il := (List.getElem?_eq_some_iff.mp hi).1
    have u := usedL_ok t (m := i) (by rw [ok.a] at il; exact il)
    have cl := c.l
    have ul := u.l
    exact tree_sm u (by omega) fun t ht => (c.b t ht).2
  refine ⟨smA_of fun d hd => (A d hd).1, ?_, ?_⟩
  · have z := lnA_le (M := 130) fun d hd => (A d hd).2.1
    rw [List.length_map, ok.a] at z
    have m : ks.length * (130 + 2) ≤ 8 * 132 := Nat.mul_le_mul_right _ hk.2
    show lnA (s.1.map tieD) + 4 ≤ 1100
    omega
  · have z := dpA_le (M := 2) fun d hd => (A d hd).2.2
    show dpA (s.1.map tieD) + 1 ≤ 3
    omega
theorem okL_list {ds : List D} (h : smA ds = true) (h2 : lnA ds ≤ 9000000) (h3 : dpA ds ≤ 50) : ∃ p, toP (.lst ds) = some p ∧ okRL p := by
  obtain ⟨ps, e, g1, g2, g3, g4⟩ := sm_toPs ds h
  refine ⟨.list ps, by simp [toP, e], by simpa [PySem.PyData.showable] using g1, by simpa [PySem.PyData.hasDict] using g2, ?_, ?_⟩
  · show PySem.PyData.depthAll ps + 1 ≤ 60
    omega
  · show (listText (PySem.PyData.shownAll ps)).length ≤ 10000000
    unfold listText
    rw [Str.length_append]
    have z := textFrom_le (PySem.PyData.shownAll ps) 0 "["
    have z1 : ("[" : Str).length = 1 := by decide
    have z2 : ("]" : Str).length = 1 := by decide
    omega
theorem good_repr {ks : List Int} {rss : List (List Int)} (t : Full ks rss) (sm : SmallT rss ks.length) : ∃ p, toP (.lst ((goodL rss ks.length).map arrowD)) = some p ∧ okRL p := by
  have h1 : (goodL rss ks.length).length ≤ 5000 := by
    unfold goodL
    rw [List.length_map]
    exact Nat.le_trans (states_len t (Nat.le_refl _)) sm.p
  have A : ∀ d ∈ (goodL rss ks.length).map arrowD, smB d = true ∧ lnB d ≤ 1100 ∧ dpB d ≤ 3 := fun d hd => by
    obtain ⟨a, ha, rfl⟩ := List.mem_map.mp hd
    exact arrow_sm t ha
  have l1 := lnA_le (M := 1100) fun d hd => (A d hd).2.1
  have d1 := dpA_le (M := 3) fun d hd => (A d hd).2.2
  rw [List.length_map] at l1
  have m : (goodL rss ks.length).length * (1100 + 2) ≤ 5000 * 1102 := Nat.mul_le_mul_right _ h1
  exact okL_list (smA_of fun d hd => (A d hd).1) (by omega) (by omega)
/-! tables by their columns -/
structure ColsOk (ks : List Int) (cols : List (List Int)) (many : Nat) : Prop where
  l : cols.length = ks.length
  c : ∀ (j : Nat) (k : Int) (c : List Int), ks[j]? = some k → cols[j]? = some c → c.length = many ∧ (∀ v ∈ c, 0 ≤ v ∧ v < k) ∧ ∀ v, 0 ≤ v → v < k → v ∈ c
theorem turn_at {cols : List (List Int)} {i j : Nat} {c : List Int} (hc : cols[j]? = some c) : (cols.map fun c => c.getD i 0).getD j 0 = c.getD i 0 := by
  rw [List.getD_eq_getElem?_getD, List.getElem?_map, hc]
  rfl
theorem turn_full {ks : List Int} {cols : List (List Int)} {many : Nat} (h : ColsOk ks cols many) (kl : 1 ≤ ks.length ∧ ks.length ≤ 8) (kb : ∀ k ∈ ks, 1 ≤ k ∧ k ≤ 6) (ml : 1 ≤ many ∧ many ≤ 12) : Full ks (turnL cols many) := by
  refine ⟨kl, kb, by unfold turnL; rw [List.length_map, List.length_range]; exact ml, fun r hr => ?_⟩
  unfold turnL at hr
  obtain ⟨i, hi, rfl⟩ := List.mem_map.mp hr
  have hi := List.mem_range.mp hi
  refine ⟨by rw [List.length_map]; exact h.l, fun m k v hk hv => ?_⟩
  rw [List.getElem?_map] at hv
  obtain ⟨c, hc, rfl⟩ := Option.map_eq_some_iff.mp hv
  obtain ⟨h1, h2, _⟩ := h.c m k c hk hc
  exact h2 _ (getD_memU (by omega))
theorem turn_used {ks : List Int} {cols : List (List Int)} {many : Nat} (h : ColsOk ks cols many) (kl : 1 ≤ ks.length ∧ ks.length ≤ 8) (kb : ∀ k ∈ ks, 1 ≤ k ∧ k ≤ 6) (ml : 1 ≤ many ∧ many ≤ 12) {m : Nat} {k : Int} (hk : ks[m]? = some k) : (usedL (turnL cols many) m).length = k.toNat := by
  have hm := (List.getElem?_eq_some_iff.mp hk).1
  obtain ⟨c, hc⟩ : ∃ c, cols[m]? = some c := ⟨_, List.getElem?_eq_getElem (by rw [h.l]; exact hm)⟩
  obtain ⟨h1, h2, h3⟩ := h.c m k c hk hc
  have e := usedL_is (turn_full h kl kb ml) hm (us := (List.range k.toNat).map Int.ofNat) (ints_pair _) fun v => ?_
  · rw [← e, List.length_map, List.length_range]
  · constructor
    · intro hv
      obtain ⟨x, hx, rfl⟩ := List.mem_map.mp hv
      have hx := List.mem_range.mp hx
      have b := kb k (List.mem_of_getElem? hk)
      obtain ⟨i, hi⟩ := List.mem_iff_getElem?.mp (h3 (Int.ofNat x) (by simp) (by show (x : Int) < k; omega))
      have il := (List.getElem?_eq_some_iff.mp hi).1
      refine ⟨cols.map fun c => c.getD i 0, ?_, ?_⟩
      · unfold turnL
        exact List.mem_map.mpr ⟨i, List.mem_range.mpr (by omega), rfl⟩
      · rw [turn_at hc, List.getD_eq_getElem?_getD, hi]
        rfl
    · rintro ⟨r, hr, rfl⟩
      unfold turnL at hr
      obtain ⟨i, hi, rfl⟩ := List.mem_map.mp hr
      have hi := List.mem_range.mp hi
      rw [turn_at hc]
      have b := h2 _ (getD_memU (o := c) (i := i) (by omega))
      exact List.mem_map.mpr ⟨(c.getD i 0).toNat, List.mem_range.mpr (by omega), by show ((c.getD i 0).toNat : Int) = _; omega⟩
theorem turn_many {ks : List Int} {cols : List (List Int)} {many : Nat} (h : ColsOk ks cols many) (kl : 1 ≤ ks.length ∧ ks.length ≤ 8) (kb : ∀ k ∈ ks, 1 ≤ k ∧ k ≤ 6) (ml : 1 ≤ many ∧ many ≤ 12) : manyM (turnL cols many) ks.length = ks.map fun k => manyT k.toNat := by
  apply List.ext_getElem?
  intro i
  unfold manyM
  rw [List.getElem?_map, List.getElem?_map]
  rcases Nat.lt_or_ge i ks.length with z | z
  · rw [List.getElem?_range z, List.getElem?_eq_getElem z]
    show some (manyT (usedL (turnL cols many) i).length) = some (manyT ks[i].toNat)
    rw [turn_used h kl kb ml (List.getElem?_eq_getElem z)]
  · rw [List.getElem?_eq_none (by rw [List.length_range]; exact z), List.getElem?_eq_none z]
    rfl
def bigS : List (List Int) := [[6, 4], [5, 5], [5, 4, 3], [4, 4, 4, 3], [3, 3, 3, 3, 3, 3, 3, 3], [6, 6, 1], [6, 5, 2, 2]]
theorem bigS_ok : ∀ l ∈ bigS, 1 ≤ l.length ∧ l.length ≤ 8 ∧ (∀ k ∈ l, 1 ≤ k ∧ k ≤ 6) ∧ 5000 < prodL (l.map fun k => manyT k.toNat) := by decide
theorem used_le {ks : List Int} {rss : List (List Int)} (t : Full ks rss) {m : Nat} {k : Int} (hk : ks[m]? = some k) : (usedL rss m).length ≤ k.toNat := by
  have hm := (List.getElem?_eq_some_iff.mp hk).1
  have z := nlenT (l := usedL rss m) (m := (List.range k.toNat).map Int.ofNat) (usedL_ok t hm).nd fun v hv => by
    obtain ⟨r, hr, rfl⟩ := (mem_usedL t hm).mp hv
    have rr := t.rf r hr
    have hl : m < r.length := by rw [rr.len]; exact hm
    have b := rr.c m k (r.getD m 0) hk (by rw [List.getD_eq_getElem?_getD, List.getElem?_eq_getElem hl]; rfl)
    exact List.mem_map.mpr ⟨(r.getD m 0).toNat, List.mem_range.mpr (by omega), by show ((r.getD m 0).toNat : Int) = _; omega⟩
  rwa [List.length_map, List.length_range] at z
theorem prodM_few {ks : List Int} {rss : List (List Int)} (t : Full ks rss) {c : Nat} (hc : ∀ m, m < ks.length → manyT (usedL rss m).length ≤ c) : ∀ {m : Nat}, m ≤ ks.length → prodM rss m ≤ c ^ m
  | 0, _ => Nat.le_refl _
  | m + 1, h => by
    have ih := prodM_few t hc (m := m) (by omega)
    rw [prodM_succ, Nat.pow_succ]
    exact Nat.mul_le_mul ih (hc m (by omega))
theorem small_of {ks : List Int} {rss : List (List Int)} (t : Full ks rss) {c : Nat} (h4 : ∀ m, m < ks.length → (usedL rss m).length ≤ 4) (hc : ∀ m, m < ks.length → manyT (usedL rss m).length ≤ c) (c1 : 1 ≤ c) (h1 : c ^ ks.length ≤ 5000) (h2 : c ^ (ks.length - 1) ≤ 256) : SmallT rss ks.length :=
  ⟨Nat.le_trans (prodM_few t hc (Nat.le_refl _)) h1, h4, fun m hm => Nat.le_trans (prodM_few t hc (by omega)) (Nat.le_trans (Nat.pow_le_pow_right c1 (by omega)) h2)⟩
def colAt (i : Nat) (y : D) : D := match y with
  | .lst xs => xs.getD i .non
  | _ => .non
theorem colAt_lst {i : Nat} {c : List Int} (h : i < c.length) : colAt i (.lst (c.map D.int)) = .int (c.getD i 0) := by
  show (c.map D.int).getD i .non = _
  rw [List.getD_eq_getElem?_getD, getD_at h]
  rfl
noncomputable def choiceF (col : List Int) (x : D) : D := match x with
  | .tup xs => choiceD col (xs.map pairD)
  | _ => .non
theorem choiceF_tie {col : List Int} {ts : List (Int × Int)} : choiceF col (tieD ts) = choiceD col ts := by
  show choiceD col ((ts.map pairI).map pairD) = _
  rw [pairD_map]
noncomputable def extF (rss : List (List Int)) (m : Nat) (s : StA) (x : D) : Option D := match x with
  | .tup [.tup xs, _] => if agreeB s.2 (sidesC (xs.map pairD) (colL rss m)) = true then some (stateT (s.1 ++ [xs.map pairD], s.2 ++ sidesC (xs.map pairD) (colL rss m))) else none
  | _ => none
theorem extF_choice {rss : List (List Int)} {m : Nat} {s : StA} {ts : List (Int × Int)} : extF rss m s (choiceD (colL rss m) ts) = if agreeB s.2 (sidesC ts (colL rss m)) = true then some (stateT (s.1 ++ [ts], s.2 ++ sidesC ts (colL rss m))) else none := by
  show (if agreeB s.2 (sidesC ((ts.map pairI).map pairD) (colL rss m)) = true then some (stateT (s.1 ++ [(ts.map pairI).map pairD], s.2 ++ sidesC ((ts.map pairI).map pairD) (colL rss m))) else none) = _
  rw [pairD_map]
theorem extF_map {rss : List (List Int)} {m : Nat} {s : StA} : ((treesC (usedL rss m)).map (choiceD (colL rss m))).filterMap (extF rss m s) = (extS rss m s).map stateT := by
  unfold extS
  generalize treesC (usedL rss m) = l
  induction l with
  | nil => rfl
  | cons ts l ih =>
    rw [List.map_cons, List.filterMap_cons, extF_choice, List.filter_cons, ih]
    cases agreeB s.2 (sidesC ts (colL rss m)) <;> rfl
noncomputable def extT (rss : List (List Int)) (m : Nat) (x : D) : List D := match x with
  | .tup [.tup as, .tup bs] => (extS rss m (as.map (fun a => match a with | .tup xs => xs.map pairD | _ => []), bs.map intsD)).map stateT
  | _ => []
theorem extT_state {rss : List (List Int)} {m : Nat} {s : StA} : extT rss m (stateT s) = (extS rss m s).map stateT := by
  have e1 : (s.1.map tieD).map (fun a => match a with | .tup xs => xs.map pairD | _ => []) = s.1 := by
    rw [List.map_map]
    have : ((fun a : D => match a with | .tup xs => xs.map pairD | _ => []) ∘ tieD) = id := funext fun ts => by
      show (ts.map pairI).map pairD = ts
      exact pairD_map
    rw [this, List.map_id]
  have e2 : (s.2.map tupI).map intsD = s.2 := by
    rw [List.map_map]
    have : (intsD ∘ tupI) = id := funext fun r => intsD_tup
    rw [this, List.map_id]
  show (extS rss m ((s.1.map tieD).map (fun a => match a with | .tup xs => xs.map pairD | _ => []), (s.2.map tupI).map intsD)).map stateT = _
  rw [e1, e2]
theorem extT_map {rss : List (List Int)} {m : Nat} : ((statesL rss m).map stateT).flatMap (extT rss m) = (statesL rss (m + 1)).map stateT := by
  rw [statesL, List.flatMap_map, List.map_flatMap]
  exact flatMap_cong fun s _ => extT_state
def fstD (x : D) : D := match x with
  | .tup [a, _] => a
  | _ => .non
noncomputable def sidedD (col : List Int) (ts : List (Int × Int)) : D := .tup [tieD ts, .lst ((sidesC ts col).map tupI)]
noncomputable def sideF (col : List Int) (x : D) : D := match x with
  | .tup xs => sidedD col (xs.map pairD)
  | _ => .non
theorem sideF_tie {col : List Int} {ts : List (Int × Int)} : sideF col (tieD ts) = sidedD col ts := by
  show sidedD col ((ts.map pairI).map pairD) = _
  rw [pairD_map]
noncomputable def extG (rss : List (List Int)) (m : Nat) (s : StA) (x : D) : Option D := match x with
  | .tup [.tup xs, _] => if agreeB s.2 (sidesC (xs.map pairD) (colL rss m)) = true then some (stateD (s.1 ++ [xs.map pairD], s.2 ++ sidesC (xs.map pairD) (colL rss m))) else none
  | _ => none
theorem extG_sided {rss : List (List Int)} {m : Nat} {s : StA} {ts : List (Int × Int)} : extG rss m s (sidedD (colL rss m) ts) = if agreeB s.2 (sidesC ts (colL rss m)) = true then some (stateD (s.1 ++ [ts], s.2 ++ sidesC ts (colL rss m))) else none := by
  show (if agreeB s.2 (sidesC ((ts.map pairI).map pairD) (colL rss m)) = true then some (stateD (s.1 ++ [(ts.map pairI).map pairD], s.2 ++ sidesC ((ts.map pairI).map pairD) (colL rss m))) else none) = _
  rw [pairD_map]
theorem extG_map {rss : List (List Int)} {m : Nat} {s : StA} : ((treesC (usedL rss m)).map (sidedD (colL rss m))).filterMap (extG rss m s) = (extS rss m s).map stateD := by
  unfold extS
  generalize treesC (usedL rss m) = l
  induction l with
  | nil => rfl
  | cons ts l ih =>
    rw [List.map_cons, List.filterMap_cons, extG_sided, List.filter_cons, ih]
    cases agreeB s.2 (sidesC ts (colL rss m)) <;> rfl
/-! columns drawn -/
theorem perm_intL {ys : List D} {vs : List Int} (h : ys.Perm (vs.map D.int)) : ∃ us : List Int, ys = us.map D.int ∧ us.Perm vs := by
  refine ⟨intsOf ys, all_ints fun d hd => ?_, ?_⟩
  · obtain ⟨v, _, e⟩ := List.mem_map.mp (h.mem_iff.mp hd)
    exact ⟨v, e.symm⟩
  · have z := h.map toI
    rw [List.map_map] at z
    have e : (toI ∘ D.int) = id := rfl
    rw [e, List.map_id] at z
    exact z
theorem mem_natsI {m : Nat} {i : Int} (h : i ∈ natsI m) : 0 ≤ i ∧ i < m := by
  obtain ⟨j, hj, rfl⟩ := List.mem_map.mp h
  have := List.mem_range.mp hj
  omega
def ColOk (k : Int) (many : Nat) (c : List Int) : Prop := c.length = many ∧ (∀ v ∈ c, 0 ≤ v ∧ v < k) ∧ ∀ v, 0 ≤ v → v < k → v ∈ c
theorem col_of {m many : Nat} {base ds c : List Int} (hb : base.Perm (natsI m)) (hd : ∀ v ∈ ds, v ∈ natsI m) (hp : c.Perm (base ++ ds)) (hl : m + ds.length = many) : ColOk m many c := by
  refine ⟨?_, fun v hv => ?_, fun v v0 v1 => hp.mem_iff.mpr (List.mem_append_left _ (hb.mem_iff.mpr (natsI_mem ⟨v0, v1⟩)))⟩
  · rw [hp.length_eq, List.length_append, hb.length_eq, natsI_len]
    exact hl
  · rcases List.mem_append.mp (hp.mem_iff.mp hv) with h | h
    · exact mem_natsI (hb.mem_iff.mp h)
    · exact mem_natsI (hd v h)
theorem cols_snoc {ks : List Int} {cols : List (List Int)} {many : Nat} {c : List Int} {k : Int} (h : ∀ (j : Nat) (k : Int) (c : List Int), ks[j]? = some k → cols[j]? = some c → ColOk k many c) (hk : ks[cols.length]? = some k) (hc : ColOk k many c) :
    ∀ (j : Nat) (k : Int) (c' : List Int), ks[j]? = some k → (cols ++ [c])[j]? = some c' → ColOk k many c' := fun j k' c' h1 h2 => by
  rcases Nat.lt_trichotomy j cols.length with z | z | z
  · rw [List.getElem?_append_left z] at h2
    exact h j k' c' h1 h2
  · subst z
    rw [List.getElem?_append_right (Nat.le_refl _), Nat.sub_self] at h2
    cases h2
    rw [hk] at h1
    cases h1
    exact hc
  · rw [List.getElem?_eq_none (by rw [List.length_append, List.length_singleton]; omega)] at h2
    cases h2
def colsD (cols : List (List Int)) : List D := cols.map fun c => D.lst (c.map D.int)
theorem colsD_snoc (cols : List (List Int)) (c : List Int) : colsD cols ++ [D.lst (c.map D.int)] = colsD (cols ++ [c]) := by
  unfold colsD
  rw [List.map_append]
  rfl
theorem big_of {ks l : List Int} {cols : List (List Int)} {many : Nat} (hl : l ∈ bigS) (hp : ks.Perm l) (h : ColsOk ks cols many) (ml : 1 ≤ many ∧ many ≤ 12) : Full ks (turnL cols many) ∧ BigT (turnL cols many) ks.length := by
  obtain ⟨a, b, c, d⟩ := bigS_ok l hl
  have kl : 1 ≤ ks.length ∧ ks.length ≤ 8 := by rw [hp.length_eq]; exact ⟨a, b⟩
  have kb : ∀ k ∈ ks, 1 ≤ k ∧ k ≤ 6 := fun k hk => c k (hp.mem_iff.mp hk)
  refine ⟨turn_full h kl kb ml, ?_⟩
  unfold BigT prodM
  rw [turn_many h kl kb ml, prodL_perm (hp.map _)]
  exact d

theorem sc_law_caught : FnScope ["work", "caught", "error"] ["work"] (defScope s_law_caught) := ⟨rfl, rfl, rfl, by decide +kernel, rfl, by decide +kernel, by decide +kernel⟩
def ds_is_number : DSp0 := fun ss n P => ∃ d, ss = [.d d] ∧ bareD d ∧ P (.bl (isInt d)) n
theorem len_is_number : ∀ ss n P, ds_is_number ss n P → ss.length = 1 := by rintro ss n P ⟨d, rfl, _⟩; rfl

def ds_is_between : DSp0 := fun ss n P => ∃ d lo hi, ss = [.d d, .d (.int lo), .d (.int hi)] ∧ bareD d ∧ P (.bl (betw lo hi d)) n
theorem len_is_between : ∀ ss n P, ds_is_between ss n P → ss.length = 3 := by rintro ss n P ⟨d, lo, hi, rfl, _⟩; rfl

def ds_is_kind : DSp0 := fun ss n P => ∃ d, ss = [.d d] ∧ bareD d ∧ P (.bl (betw 1 6 d)) n
theorem len_is_kind : ∀ ss n P, ds_is_kind ss n P → ss.length = 1 := by rintro ss n P ⟨d, rfl, _⟩; rfl

def ds_are_kinds : DSp0 := fun ss n P => ∃ d, ss = [.d d] ∧ nx d = true ∧ P (.bl (kindsB d)) n
theorem len_are_kinds : ∀ ss n P, ds_are_kinds ss n P → ss.length = 1 := by rintro ss n P ⟨d, rfl, _⟩; rfl

def ds_is_cell : DSp0 := fun ss n P => ∃ k d, ss = [.d (.int k), .d d] ∧ bareD d ∧ P (.bl (cellB (.int k) d)) n
theorem len_is_cell : ∀ ss n P, ds_is_cell ss n P → ss.length = 2 := by rintro ss n P ⟨k, d, rfl, _⟩; rfl

def ds_is_row_for : DSp0 := fun ss n P => ∃ ks d, ss = [.d (.tup ks), .d d] ∧ nx d = true ∧ ks.length ≤ 100 ∧ ks.all (betw 1 6) = true ∧ P (.bl (rowB ks d)) n
theorem len_is_row_for : ∀ ss n P, ds_is_row_for ss n P → ss.length = 2 := by rintro ss n P ⟨k, d, rfl, _⟩; rfl

def ds_first_unread : DSp0 := fun ss n P => ∃ m rs, ss = [.d (.tup rs)] ∧ 1 ≤ rs.length ∧ rs.length ≤ 100 ∧ m ≤ 100 ∧ (∀ r ∈ rs, ∃ cs, r = .tup cs ∧ cs.length = m) ∧ P (match firstU m rs with | some j => .int j | none => .non) n
theorem len_first_unread : ∀ ss n P, ds_first_unread ss n P → ss.length = 1 := by rintro ss n P ⟨m, k, rfl, _⟩; rfl

def ds_are_rows : DSp0 := fun ss n P => ∃ ks d, ss = [.d (.tup ks), .d d] ∧ nx d = true ∧ kindsB (.tup ks) = true ∧ P (.bl (rowsB ks d)) n
theorem len_are_rows : ∀ ss n P, ds_are_rows ss n P → ss.length = 2 := by rintro ss n P ⟨k, d, rfl, _⟩; rfl

def ds_law_put : DSp0 := fun ss n P => ∃ xs i d, ss = [.d (.tup xs), .d (.int (i : Nat)), .d d] ∧ i < xs.length ∧ xs.length ≤ 100 ∧ P (.tup (xs.take i ++ [d] ++ xs.drop (i + 1))) n
theorem len_law_put : ∀ ss n P, ds_law_put ss n P → ss.length = 3 := by rintro ss n P ⟨xs, hi, d, rfl, _⟩; rfl

def ds_law_draw : DSp0 := fun ss n P => ∃ z, ss = [.st, .d (.int z)] ∧ 0 < z ∧ z < 1073741824 ∧ n < LIM ∧ ∀ r n', 0 ≤ r → r < z → n' ≤ n + 1 → P (.int r) n'
theorem len_law_draw : ∀ ss n P, ds_law_draw ss n P → ss.length = 2 := by rintro ss n P ⟨z, rfl, _⟩; rfl

def ds_law_pick : DSp0 := fun ss n P => ∃ xs, (ss = [.st, .d (.tup xs)] ∨ ss = [.st, .d (.lst xs)]) ∧ 0 < xs.length ∧ xs.length ≤ 1000 ∧ n < LIM ∧ ∀ x ∈ xs, ∀ n', n' ≤ n + 1 → P x n'
theorem len_law_pick : ∀ ss n P, ds_law_pick ss n P → ss.length = 2 := by rintro ss n P ⟨xs, rfl | rfl, _⟩ <;> rfl

def ds_law_bad_table : DSp0 := fun ss n P => ss = [.st] ∧ n < LIM ∧ ∀ d n', n' ≤ n + 1 → nx d = true → (∀ C ns ds, d ≠ .ins C ns ds) → P d n'
theorem len_law_bad_table : ∀ ss n P, ds_law_bad_table ss n P → ss.length = 1 := by rintro ss n P ⟨rfl, _⟩; rfl

def ds_Table_init (cs : Cs) : DSI := fun ss n P XP => ∃ k r, ss = [.d k, .d r] ∧ nx k = true ∧ nx r = true ∧
  (kindsB k = false → XP cs.BadKinds [] [] n) ∧ (kindsB k = true → rowsB (match k with | .tup ks => ks | _ => []) r = false → XP cs.BadRows [] [] n) ∧ (kindsB k = true → rowsB (match k with | .tup ks => ks | _ => []) r = true → P kR [k, r] n)
theorem len_Table_init (cs : Cs) : ∀ ss n P XP, ds_Table_init cs ss n P XP → ss.length + 1 = 3 := by rintro ss n P XP ⟨k, r, rfl, _⟩; rfl

def ds_check_table (cs : Cs) : DSp := fun ss n P XP => ∃ d, ss = [.d d] ∧ ((∃ ks rs, d = tabD cs.Table ks rs ∧ P .non n) ∨ (nx d = true ∧ (∀ C ns ds, d ≠ .ins C ns ds) ∧ XP cs.BadTable [] [] n))
theorem len_check_table (cs : Cs) : ∀ ss n P XP, ds_check_table cs ss n P XP → ss.length = 1 := by rintro ss n P XP ⟨d, rfl, _⟩; rfl

def ds_law_made (cs : Cs) : DSp0 := fun ss n P => ∃ ks rs, ss = [.d (.dic [.inr "kinds", .inr "rows"] [.tup ks, .tup rs])] ∧ nxs ks = true ∧ nxs rs = true ∧ kindsB (.tup ks) = true ∧ rowsB ks (.tup rs) = true ∧ P (tabD cs.Table ks rs) n
theorem len_law_made (cs : Cs) : ∀ ss n P, ds_law_made cs ss n P → ss.length = 1 := by rintro ss n P ⟨ks, rs, rfl, _⟩; rfl



def ds_is_rising : DSp0 := fun ss n P => (∃ ns : List Int, ss = [.d (.tup (ns.map D.int))] ∧ ns.length ≤ 100 ∧ P (.bl (risB ns)) n) ∨ (∃ nss : List (List Int), ss = [.d (.tup (nss.map tupI))] ∧ nss.length ≤ 100 ∧ P (.bl (risL nss)) n)
theorem len_is_rising : ∀ ss n P, ds_is_rising ss n P → ss.length = 1 := by rintro ss n P (⟨ns, rfl, _⟩ | ⟨ns, rfl, _⟩) <;> rfl

def ds_is_lot : DSp0 := fun ss n P => ∃ (d : D) (lo hi : Int), ss = [.d d, .d (.int lo), .d (.int hi)] ∧ nx d = true ∧ shortD d = true ∧ P (.bl (lotB2 lo hi d)) n
theorem len_is_lot : ∀ ss n P, ds_is_lot ss n P → ss.length = 3 := by rintro ss n P ⟨d, lo, hi, rfl, _⟩; rfl

def ds_law_mixed : DSp0 := fun ss n P => ∃ xs, (ss = [.st, .d (.lst xs)] ∨ ss = [.st, .d (.tup xs)]) ∧ xs.length ≤ 100 ∧ n + 200 < LIM ∧ ∀ ys n', ys.Perm xs → n' ≤ n + xs.length → P (.lst ys) n'
theorem len_law_mixed : ∀ ss n P, ds_law_mixed ss n P → ss.length = 2 := by rintro ss n P ⟨xs, rfl | rfl, _⟩ <;> rfl

def ds_check_matter (cs : Cs) : DSp := fun ss n P XP => ∃ ks rs v, ss = [.d (tabD cs.Table ks rs), .d v] ∧ nx v = true ∧ (betw 0 ((ks.length : Int) - 1) v = true → P .non n) ∧ (betw 0 ((ks.length : Int) - 1) v = false → XP cs.BadMatter [] [] n)
theorem len_check_matter (cs : Cs) : ∀ ss n P XP, ds_check_matter cs ss n P XP → ss.length = 2 := by rintro ss n P XP ⟨ks, rs, v, rfl, _⟩; rfl

def ds_is_full (cs : Cs) : DSp := fun ss n P XP => ∃ d, ss = [.d d] ∧ ((nx d = true ∧ NotIns d ∧ XP cs.BadTable [] [] n) ∨ (∃ ks rss, Full ks rss ∧ d = tabD cs.Table (ks.map D.int) (rss.map tupI) ∧ P (.bl true) n) ∨ ∃ ks rs, NoneT ks rs ∧ d = tabD cs.Table (ks.map D.int) (rs.map D.tup) ∧ P (.bl false) n)
theorem len_is_full (cs : Cs) : ∀ ss n P XP, ds_is_full cs ss n P XP → ss.length = 1 := by rintro ss n P XP ⟨d, rfl, _⟩; rfl

def ds_check_full (cs : Cs) : DSp := fun ss n P XP => ∃ d, ss = [.d d] ∧ ((nx d = true ∧ NotIns d ∧ XP cs.BadTable [] [] n) ∨ (∃ ks rss, Full ks rss ∧ d = tabD cs.Table (ks.map D.int) (rss.map tupI) ∧ P .non n) ∨ ∃ ks rs, NoneT ks rs ∧ d = tabD cs.Table (ks.map D.int) (rs.map D.tup) ∧ XP cs.Unread [] [] n)
theorem len_check_full (cs : Cs) : ∀ ss n P XP, ds_check_full cs ss n P XP → ss.length = 1 := by rintro ss n P XP ⟨d, rfl, _⟩; rfl

def ds_used (cs : Cs) : DSp := fun ss n P XP => ∃ d v, ss = [.d d, .d v] ∧ nx v = true ∧ ((nx d = true ∧ NotIns d ∧ XP cs.BadTable [] [] n) ∨ ∃ (ks : List Int) (rss : List (List Int)), d = tabD cs.Table (ks.map D.int) (rss.map tupI) ∧ Full ks rss ∧
  (betw 0 ((ks.length : Int) - 1) v = false ∧ XP cs.BadMatter [] [] n ∨ ∃ m : Nat, v = .int m ∧ m < ks.length ∧ P (.tup ((usedL rss m).map D.int)) n))
theorem len_used (cs : Cs) : ∀ ss n P XP, ds_used cs ss n P XP → ss.length = 2 := by rintro ss n P XP ⟨d, v, rfl, _⟩; rfl

def ds_do_cross : DSp0 := fun ss n P => ∃ xs ys : List Int, ss = [.d (.tup (xs.map D.int)), .d (.tup (ys.map D.int))] ∧ xs.length ≤ 100 ∧ ys.length ≤ 100 ∧ P (.bl (crossB xs ys)) n
theorem len_do_cross : ∀ ss n P, ds_do_cross ss n P → ss.length = 2 := by rintro ss n P ⟨xs, ys, rfl, _⟩; rfl

def ds_law_pairs : DSp0 := fun ss n P => ∃ xs : List D, (ss = [.d (.lst xs)] ∨ ss = [.d (.tup xs)]) ∧ xs.length ≤ 50 ∧ P (.lst (pairsD xs)) n
theorem len_law_pairs : ∀ ss n P, ds_law_pairs ss n P → ss.length = 1 := by rintro ss n P ⟨xs, rfl | rfl, _⟩ <;> rfl

def ds_law_crosses : DSp0 := fun ss n P => ∃ xs ys : List Int, ss = [.d (.tup (xs.map D.int)), .d (.tup (ys.map D.int))] ∧ xs.length ≤ 100 ∧ ys.length ≤ 100 ∧ P (.bl (crossB xs ys)) n
theorem len_law_crosses : ∀ ss n P, ds_law_crosses ss n P → ss.length = 2 := by rintro ss n P ⟨xs, ys, rfl, _⟩; rfl

def ds_ties_at : DSp0 := fun ss n P => ∃ (q : D) (ts : List (Int × Int)) (p : Int), ss = [.d q, .d (.int p)] ∧ TieD q ts ∧ ts.length ≤ 100 ∧ P (.lst ((ts.filter (atB p)).map pairI)) n
theorem len_ties_at : ∀ ss n P, ds_ties_at ss n P → ss.length = 2 := by rintro ss n P ⟨q, ts, p, rfl, _⟩; rfl

def ds_steps_to : DSp0 := fun ss n P => ∃ (U : List Int) (q : D) (ts : List (Int × Int)) (goal : Int), ss = [.d q, .d (.int goal)] ∧ TieD q ts ∧ TsU U ts ∧ goal ∈ U ∧ ∀ ks vs : List Int, StepsU U ts goal ks vs → P (.dic (ks.map keyI) (vs.map .int)) n
theorem len_steps_to : ∀ ss n P, ds_steps_to ss n P → ss.length = 2 := by rintro ss n P ⟨U, q, ts, p, rfl, _⟩; rfl

def ds_law_founded : DSp0 := fun ss n P => ∃ (many : Nat) (ks : List Int), ss = [.st, .d (.int many), .d (tupI ks)] ∧ many ≤ 12 ∧ 1 ≤ ks.length ∧ ks.length ≤ 8 ∧ (∀ k ∈ ks, 1 ≤ k ∧ k ≤ 6) ∧ n + 1000 < LIM ∧ ∀ (rss : List (List Int)) (ah : List D) n', rss.length = 2 * many + 1 → (∀ r ∈ rss, RowF ks r) → n' ≤ n + 300 → P (.tup [.lst (rss.map tupI), .lst ah]) n'
theorem len_law_founded : ∀ ss n P, ds_law_founded ss n P → ss.length = 3 := by rintro ss n P ⟨m, ks, rfl, _⟩; rfl

def ds_law_true : DSp0 := fun ss n P => ∃ (many : Nat) (ks : List Int), ss = [.st, .d (.int many), .d (tupI ks)] ∧ 1 ≤ many ∧ many ≤ 12 ∧ 1 ≤ ks.length ∧ ks.length ≤ 8 ∧ (∀ k ∈ ks, 1 ≤ k ∧ k ≤ 6) ∧ n + 2000 < LIM ∧ ∀ rss n', Full ks rss → rss.length = many → n' ≤ n + 500 → P (dicT (ks.map D.int) (rss.map tupI)) n'
theorem len_law_true : ∀ ss n P, ds_law_true ss n P → ss.length = 3 := by rintro ss n P ⟨m, ks, rfl, _⟩; rfl

def ds_law_any : DSp0 := fun ss n P => ∃ (many : Nat) (ks : List Int), ss = [.st, .d (.int many), .d (tupI ks)] ∧ 1 ≤ many ∧ many ≤ 12 ∧ 1 ≤ ks.length ∧ ks.length ≤ 8 ∧ (∀ k ∈ ks, 1 ≤ k ∧ k ≤ 6) ∧ n + 2000 < LIM ∧ ∀ rss n', Full ks rss → rss.length = many → n' ≤ n + 200 → P (dicT (ks.map D.int) (rss.map tupI)) n'
theorem len_law_any : ∀ ss n P, ds_law_any ss n P → ss.length = 3 := by rintro ss n P ⟨m, ks, rfl, _⟩; rfl

def ds_law_ringed : DSp0 := fun ss n P => ∃ (ks : List Int) (rss : List (List Int)), ss = [.st, .d (dicT (ks.map D.int) (rss.map tupI))] ∧ Full ks rss ∧ n + 2000 < LIM ∧ ∀ rss' n', Full ks rss' → rss'.length = rss.length → n' ≤ n + 100 → P (dicT (ks.map D.int) (rss'.map tupI)) n'
theorem len_law_ringed : ∀ ss n P, ds_law_ringed ss n P → ss.length = 2 := by rintro ss n P ⟨ks, rss, rfl, _⟩; rfl

def ds_law_near : DSp0 := fun ss n P => ∃ (ks : List Int) (rss : List (List Int)), ss = [.st, .d (dicT (ks.map D.int) (rss.map tupI))] ∧ Full ks rss ∧ n + 2000 < LIM ∧ ∀ rss' n', Full ks rss' → rss'.length = rss.length → n' ≤ n + 100 → P (dicT (ks.map D.int) (rss'.map tupI)) n'
theorem len_law_near : ∀ ss n P, ds_law_near ss n P → ss.length = 2 := by rintro ss n P ⟨ks, rss, rfl, _⟩; rfl

def ds_law_wide : DSp0 := fun ss n P => ∃ (most wide : Nat) (sv : List Int), ss = [.st, .d (.int most), .d (.lst (sv.map D.int)), .d (.int wide)] ∧ 1 ≤ most ∧ most ≤ 12 ∧ 1 ≤ wide ∧ wide ≤ 8 ∧ sv ≠ [] ∧ sv.length ≤ 100 ∧ (∀ k ∈ sv, 1 ≤ k ∧ k ≤ 6) ∧ n + 5000 < LIM ∧
  ∀ ks rss n', Full ks rss → rss.length ≤ max most 4 → ks.length ≤ wide → (∀ k ∈ ks, k ∈ sv) → n' ≤ n + 1000 → P (dicT (ks.map D.int) (rss.map tupI)) n'
theorem len_law_wide : ∀ ss n P, ds_law_wide ss n P → ss.length = 4 := by rintro ss n P ⟨most, wide, sv, rfl, _⟩; rfl

def ds_law_bad_full (K : PySem.W.Frag) (cs : Cs) (LD : LamP) (HD : HldP) : DSp0 := fun ss n P => ∃ (ks : List Int) (rss : List (List Int)), ss = [.st, .d (dicT (ks.map D.int) (rss.map tupI))] ∧ Full ks rss ∧ n + 100 < LIM ∧
  ∀ (d : D) (F : FV) (n' : Nat), n' ≤ n + 10 → nx d = true → (NotIns d ∧ ChkIs K LD F cs.BadTable ∨ ∃ rs : List (List D), NoneT ks rs ∧ d = tabD cs.Table (ks.map D.int) (rs.map D.tup) ∧ ChkIs K LD F cs.Unread) → P (.tup [d, .lam F]) n'
theorem len_law_bad_full (K : PySem.W.Frag) (cs : Cs) (LD : LamP) (HD : HldP) : ∀ ss n P, ds_law_bad_full K cs LD HD ss n P → ss.length = 2 := by rintro ss n P ⟨ks, rss, rfl, _⟩; rfl

noncomputable def ds_do_join : DSp0 := fun ss n P => ∃ (us : List Int) (ts : List (Int × Int)), ss = [.d (.tup (ts.map pairI)), .d (tupI us)] ∧ UsOk us ∧ TsU us ts ∧ P (.bl (connU us ts)) n
theorem len_do_join : ∀ ss n P, ds_do_join ss n P → ss.length = 2 := by rintro ss n P ⟨us, ts, rfl, _⟩; rfl

def ds_is_pair : DSp0 := fun ss n P => ∃ (us : List Int) (d : D), ss = [.d (tupI us), .d d] ∧ UsOk us ∧ nx d = true ∧ shortD d = true ∧ P (.bl (tieC us d)) n
theorem len_is_pair : ∀ ss n P, ds_is_pair ss n P → ss.length = 2 := by rintro ss n P ⟨us, d, rfl, _⟩; rfl

noncomputable def ds_is_custom_tree (cs : Cs) : DSp := fun ss n P XP => ∃ d v t, ss = [.d d, .d v, .d t] ∧ nx v = true ∧ nx t = true ∧ short2 t = true ∧ ((nx d = true ∧ NotIns d ∧ XP cs.BadTable [] [] n) ∨ (∃ ks rs, NoneT ks rs ∧ d = tabD cs.Table (ks.map D.int) (rs.map D.tup) ∧ XP cs.Unread [] [] n) ∨ ∃ (ks : List Int) (rss : List (List Int)), d = tabD cs.Table (ks.map D.int) (rss.map tupI) ∧ Full ks rss ∧
  (betw 0 ((ks.length : Int) - 1) v = false ∧ XP cs.BadMatter [] [] n ∨ ∃ m : Nat, v = .int m ∧ m < ks.length ∧ P (.bl (ctB (usedL rss m) t)) n))
theorem len_is_custom_tree (cs : Cs) : ∀ ss n P XP, ds_is_custom_tree cs ss n P XP → ss.length = 3 := by rintro ss n P XP ⟨d, v, t, rfl, _⟩; rfl

noncomputable def ds_pair_parting (cs : Cs) : DSp0 := fun ss n P => ∃ (ks : List Int) (rss : List (List Int)) (m : Nat) (ts : List (Int × Int)) (e : Int × Int), ss = [.d (tabD cs.Table (ks.map D.int) (rss.map tupI)), .d (.int m), .d (.tup (ts.map pairI)), .d (pairI e)] ∧ Full ks rss ∧ m < ks.length ∧ CT (usedL rss m) ts ∧ P (tupI (partC ts (colL rss m) e)) n
theorem len_pair_parting (cs : Cs) : ∀ ss n P, ds_pair_parting cs ss n P → ss.length = 4 := by rintro ss n P ⟨ks, rss, m, ts, e, rfl, _⟩; rfl

noncomputable def ds_pair_partings (cs : Cs) : DSp := fun ss n P XP => ∃ d v t, ss = [.d d, .d v, .d t] ∧ nx v = true ∧ nx t = true ∧ short2 t = true ∧ ((nx d = true ∧ NotIns d ∧ XP cs.BadTable [] [] n) ∨ (∃ ks rs, NoneT ks rs ∧ d = tabD cs.Table (ks.map D.int) (rs.map D.tup) ∧ XP cs.Unread [] [] n) ∨ ∃ (ks : List Int) (rss : List (List Int)), d = tabD cs.Table (ks.map D.int) (rss.map tupI) ∧ Full ks rss ∧
  (betw 0 ((ks.length : Int) - 1) v = false ∧ XP cs.BadMatter [] [] n ∨ ∃ m : Nat, v = .int m ∧ m < ks.length ∧ (ctB (usedL rss m) t = false ∧ XP cs.BadCustomTree [] [] n ∨ ∃ ts, t = .tup (ts.map pairI) ∧ CT (usedL rss m) ts ∧ P (.tup ((sidesC ts (colL rss m)).map tupI)) n)))
theorem len_pair_partings (cs : Cs) : ∀ ss n P XP, ds_pair_partings cs ss n P XP → ss.length = 3 := by rintro ss n P XP ⟨d, v, t, rfl, _⟩; rfl

def ds_law_column : DSp0 := fun ss n P => ∃ (ks : List Int) (rss : List (List Int)) (m : Nat), ss = [.d (dicT (ks.map D.int) (rss.map tupI)), .d (.int m)] ∧ Full ks rss ∧ m < ks.length ∧ P (tupI (colL rss m)) n
theorem len_law_column : ∀ ss n P, ds_law_column ss n P → ss.length = 2 := by rintro ss n P ⟨ks, rss, m, rfl, _⟩; rfl

def ds_law_used : DSp0 := fun ss n P => ∃ (ks : List Int) (rss : List (List Int)) (m : Nat), ss = [.d (dicT (ks.map D.int) (rss.map tupI)), .d (.int m)] ∧ Full ks rss ∧ m < ks.length ∧ P (.lst ((usedL rss m).map D.int)) n
theorem len_law_used : ∀ ss n P, ds_law_used ss n P → ss.length = 2 := by rintro ss n P ⟨ks, rss, m, rfl, _⟩; rfl

noncomputable def ds_law_joins : DSp0 := fun ss n P => ∃ (us : List Int) (ts : List (Int × Int)), ss = [.d (.lst (us.map D.int)), .d (.tup (ts.map pairI))] ∧ UsOk us ∧ TsU us ts ∧ P (.bl (connU us ts)) n
theorem len_law_joins : ∀ ss n P, ds_law_joins ss n P → ss.length = 2 := by rintro ss n P ⟨us, ts, rfl, _⟩; rfl

noncomputable def ds_law_side : DSp0 := fun ss n P => ∃ (us col : List Int) (ts : List (Int × Int)) (e : Int × Int), ss = [.d (tupI col), .d (.tup (ts.map pairI)), .d (pairI e)] ∧ UsOk us ∧ CT us ts ∧ 1 ≤ col.length ∧ col.length ≤ 12 ∧ (∀ c ∈ col, c ∈ us) ∧ P (tupI (partC ts col e)) n
theorem len_law_side : ∀ ss n P, ds_law_side ss n P → ss.length = 3 := by rintro ss n P ⟨us, col, ts, e, rfl, _⟩; rfl

noncomputable def ds_law_sides : DSp0 := fun ss n P => ∃ (us col : List Int) (ts : List (Int × Int)), ss = [.d (tupI col), .d (.tup (ts.map pairI))] ∧ UsOk us ∧ CT us ts ∧ 1 ≤ col.length ∧ col.length ≤ 12 ∧ (∀ c ∈ col, c ∈ us) ∧ P (.lst ((sidesC ts col).map tupI)) n
theorem len_law_sides : ∀ ss n P, ds_law_sides ss n P → ss.length = 2 := by rintro ss n P ⟨us, col, ts, rfl, _⟩; rfl

def ds_law_agree : DSp0 := fun ss n P => ∃ (xs ys : List (List Int)), ss = [.d (.lst (xs.map tupI)), .d (.lst (ys.map tupI))] ∧ (∀ x ∈ xs, x.length ≤ 100) ∧ (∀ y ∈ ys, y.length ≤ 100) ∧ xs.length ≤ 100 ∧ ys.length ≤ 100 ∧ P (.bl (agreeB xs ys)) n
theorem len_law_agree : ∀ ss n P, ds_law_agree ss n P → ss.length = 2 := by rintro ss n P ⟨xs, ys, rfl, _⟩; rfl

def ds_custom_trees (cs : Cs) : DSpO := fun ss n P XP => ∃ d v, ss = [.d d, .d v] ∧ nx v = true ∧ ((nx d = true ∧ NotIns d ∧ XP cs.BadTable [] [] n) ∨ (∃ ks rs, NoneT ks rs ∧ d = tabD cs.Table (ks.map D.int) (rs.map D.tup) ∧ XP cs.Unread [] [] n) ∨ ∃ (ks : List Int) (rss : List (List Int)), d = tabD cs.Table (ks.map D.int) (rss.map tupI) ∧ Full ks rss ∧
  (betw 0 ((ks.length : Int) - 1) v = false ∧ XP cs.BadMatter [] [] n ∨ ∃ m : Nat, v = .int m ∧ m < ks.length ∧ P ((treesC (usedL rss m)).map tieD) n))
theorem len_custom_trees (cs : Cs) : ∀ ss n P XP, ds_custom_trees cs ss n P XP → ss.length = 2 := by rintro ss n P XP ⟨d, v, rfl, _⟩; rfl

def ds_law_custom_trees : DSp0 := fun ss n P => ∃ (us : List Int), ss = [.d (.lst (us.map D.int))] ∧ UsOk us ∧ us.length ≤ 5 ∧ P (.lst ((treesC us).map tieD)) n
theorem len_law_custom_trees : ∀ ss n P, ds_law_custom_trees ss n P → ss.length = 1 := by rintro ss n P ⟨us, rfl, _⟩; rfl

def ds_law_turned : DSp0 := fun ss n P => ∃ (cols : List (List Int)) (many : Nat), ss = [.d (.lst (cols.map fun c => D.lst (c.map D.int)))] ∧ cols ≠ [] ∧ cols.length ≤ 8 ∧ many ≤ 12 ∧ (∀ c ∈ cols, c.length = many) ∧ P (.tup ((turnL cols many).map tupI)) n
theorem len_law_turned : ∀ ss n P, ds_law_turned ss n P → ss.length = 1 := by rintro ss n P ⟨c, m, rfl, _⟩; rfl

def ds_law_drawn : DSp0 := fun ss n P => ss = [.st] ∧ n + 6000 < LIM ∧ ∀ ks rss n', Full ks rss → SmallT rss ks.length → n' ≤ n + 1500 → P (dicT (ks.map D.int) (rss.map tupI)) n'
theorem len_law_drawn : ∀ ss n P, ds_law_drawn ss n P → ss.length = 1 := by rintro ss n P ⟨rfl, _⟩; rfl

def ds_law_big : DSp0 := fun ss n P => ss = [.st] ∧ n + 6000 < LIM ∧ ∀ ks rss n', Full ks rss → BigT rss ks.length → n' ≤ n + 500 → P (dicT (ks.map D.int) (rss.map tupI)) n'
theorem len_law_big : ∀ ss n P, ds_law_big ss n P → ss.length = 1 := by rintro ss n P ⟨rfl, _⟩; rfl

noncomputable def ds_told (cs : Cs) : DSp := fun ss n P XP => ∃ (ks : List Int) (rss : List (List Int)) (m : Nat), ss = [.d (tabD cs.Table (ks.map D.int) (rss.map tupI)), .d (.int m)] ∧ Full ks rss ∧ m < ks.length ∧ P (.lst ((treesC (usedL rss m)).map (choiceD (colL rss m)))) n
theorem len_told (cs : Cs) : ∀ ss n P XP, ds_told cs ss n P XP → ss.length = 2 := by rintro ss n P XP ⟨ks, rss, m, rfl, _⟩; rfl

noncomputable def ds_all_told (cs : Cs) : DSp := fun ss n P XP => ∃ d, ss = [.d d] ∧ ((nx d = true ∧ NotIns d ∧ XP cs.BadTable [] [] n) ∨ (∃ ks rs, NoneT ks rs ∧ d = tabD cs.Table (ks.map D.int) (rs.map D.tup) ∧ XP cs.Unread [] [] n) ∨ ∃ (ks : List Int) (rss : List (List Int)), d = tabD cs.Table (ks.map D.int) (rss.map tupI) ∧ Full ks rss ∧
  (BigT rss ks.length ∧ XP cs.TooMany ["most"] [.int 5000] n ∨ SmallT rss ks.length ∧ P (.lst ((List.range ks.length).map fun m => .lst ((treesC (usedL rss m)).map (choiceD (colL rss m))))) n))
theorem len_all_told (cs : Cs) : ∀ ss n P XP, ds_all_told cs ss n P XP → ss.length = 1 := by rintro ss n P XP ⟨d, rfl, _⟩; rfl

def ds_more : DSp0 := fun ss n P => ∃ (a b : List D) (t : D) (c : List D), ss = [.d (.tup [.tup a, .tup b]), .d (.tup [t, .tup c])] ∧ a.length ≤ 100 ∧ b.length + c.length ≤ 1000 ∧ P (.tup [.tup (a ++ [t]), .tup (b ++ c)]) n
theorem len_more : ∀ ss n P, ds_more ss n P → ss.length = 2 := by rintro ss n P ⟨a, b, t, c, rfl, _⟩; rfl

def ds_any_cross : DSp0 := fun ss n P => ∃ (xs ys : List (List Int)), ss = [.d (tt xs), .d (tt ys)] ∧ xs.length ≤ 1000 ∧ ys.length ≤ 64 ∧ (∀ x ∈ xs, x.length ≤ 100) ∧ (∀ y ∈ ys, y.length ≤ 100) ∧ P (.bl (!agreeB xs ys)) n
theorem len_any_cross : ∀ ss n P, ds_any_cross ss n P → ss.length = 2 := by rintro ss n P ⟨a, b, rfl, _⟩; rfl

noncomputable def ds_good_arrows (cs : Cs) : DSpO := fun ss n P XP => ∃ d, ss = [.d d] ∧ ((nx d = true ∧ NotIns d ∧ XP cs.BadTable [] [] n) ∨ (∃ ks rs, NoneT ks rs ∧ d = tabD cs.Table (ks.map D.int) (rs.map D.tup) ∧ XP cs.Unread [] [] n) ∨ ∃ (ks : List Int) (rss : List (List Int)), d = tabD cs.Table (ks.map D.int) (rss.map tupI) ∧ Full ks rss ∧
  (BigT rss ks.length ∧ XP cs.TooMany ["most"] [.int 5000] n ∨ SmallT rss ks.length ∧ P ((goodL rss ks.length).map arrowD) n))
theorem len_good_arrows (cs : Cs) : ∀ ss n P XP, ds_good_arrows cs ss n P XP → ss.length = 1 := by rintro ss n P XP ⟨d, rfl, _⟩; rfl

noncomputable def ds_law_longer : DSp0 := fun ss n P => ∃ (ks : List Int) (rss : List (List Int)) (m : Nat), ss = [.d (dicT (ks.map D.int) (rss.map tupI)), .d (.int m), .d (.lst ((statesL rss m).map stateD))] ∧ Full ks rss ∧ m < ks.length ∧ SmallT rss ks.length ∧ P (.lst ((statesL rss (m + 1)).map stateD)) n
theorem len_law_longer : ∀ ss n P, ds_law_longer ss n P → ss.length = 3 := by rintro ss n P ⟨ks, rss, m, rfl, _⟩; rfl

noncomputable def ds_law_every_good : DSp0 := fun ss n P => ∃ (ks : List Int) (rss : List (List Int)), ss = [.d (dicT (ks.map D.int) (rss.map tupI))] ∧ Full ks rss ∧ SmallT rss ks.length ∧ P (.lst ((goodL rss ks.length).map arrowD)) n
theorem len_law_every_good : ∀ ss n P, ds_law_every_good ss n P → ss.length = 1 := by rintro ss n P ⟨ks, rss, rfl, _⟩; rfl

def ds_law_is_right (cs : Cs) : DSp0 := fun ss n P => ∃ (ks : List Int) (rss : List (List Int)), ss = [.d (dicT (ks.map D.int) (rss.map tupI))] ∧ Full ks rss ∧ SmallT rss ks.length ∧ P (.bl true) n
theorem len_law_is_right (cs : Cs) : ∀ ss n P, ds_law_is_right cs ss n P → ss.length = 1 := by rintro ss n P ⟨ks, rss, rfl, _⟩; rfl



end Lw

namespace Lw
open L2 PySem DL
local macro_rules | `(tactic| walk_at "dl") => `(tactic| simp only [xoSeq, xoRet, xnCallO, xnCallO0, xnCallKwO, xOf, xiCombN, xListComb, xsSeq, xLamD, xCallEU, xgTwoL, xiZipM, xsPar3M, xnRepL, xsNext, xsSet, xsRet, xsIf, xsDrop, xsPar, xsFor, xVar, xC, xaNil, xaCons, xaSt, xOp, xUn, xCB, xB, xtAnd, xtOr, xtNot, xAndV, xOrV, xNotV, xIf, xTup, xLst, xChain, xDGet, xSl, xoNone, xoSome, xCall0, xCallX, xIsT, xIs, xFld, xDisp, xPairs, xDNew, xLc, xnLc, xtYes, xgName, xgTwo, xiRange1, xiZip, xsSetO, xIxO, xLenO, xTupO, xsPutO, xsAppO, xsMe, xMake, xsAsgG, xLam, xStLeft, xStTurn, xStCells, xsStLeft, xsStTurn, xsLoop, xsRaise, startS, slotD_zero, slotD_succ, slotO_zero, slotO_succ, List.length_cons, List.length_nil, List.replicate, List.cons_append, List.nil_append, List.set, wipeS, addD, subD, intD, cmpD, mulD, isD, isnD, ixD, slD, lenD, tupD, lstD, int1D, maxD, minD, negD, one1, two2, noOl, true_and, List.map_cons, List.map_nil, eqD, neD, eqP_int, eqP_bl, eqP_str, id, isTy, beq_self_eq_true, Bool.not_true, Bool.not_false, allD, svD, CPow, CMul, xStCells, Option.some.injEq, exists_eq_left', isSt, List.getElem?_cons_zero, List.getElem?_cons_succ, Nat.reduceAdd, Nat.reduceSub, Nat.sub_self, List.replicate_succ, List.replicate_zero, List.append_nil, Nat.zero_add, keyD, Nat.reduceLeDiff, Nat.zero_le, exists_and_left, vd_k, vd_r, xsWhile, xsParM, xmD, xmN, xnNil, xnLst, xnList, xsFrz, xtView, xsAppPop, xsAppO, xiEnum, xgThree, xsSetD, xsRetE, slotE_zero, slotE_succ, noOd, isOd, xsRaise1, xXat, fldD, gp, gpI, ds0, neNilD, mulD1, xListRng, eqNilTD, xSortSc, xSortSet, ltUD, pairD, inTD, xsSetPop0, xsExtO, xtNotInE, xsPutK, slotT_zero, slotT_succ, addLD, inLI, notInLI, xLc2, xnLc2, lenKD, Bool.and_self, Bool.and_true, Bool.true_and, List.set_cons_zero, List.set_cons_succ])
section
variable {P : Program} {w : PySem.World} {K : PySem.W.Frag} {mg : Str → Option Value} {base : Heap} {TT : Tb} {cs : Cs} {tk0 : Tk}
theorem sc_is_number : FnScope ["thing"] ["thing"] (defScope s_is_number) := ⟨rfl, rfl, rfl, by decide +kernel, rfl, by decide +kernel, by decide +kernel⟩
theorem ok_is_number (T : Txt K mg cs tk0) (D : DefAt K mg "is_number" s_is_number ["thing"]) : Has P w K mg base CX0 1 "is_number" ["thing"] (sp0 K TT ds_is_number) := by
  obtain ⟨f, fd, F, hm, hk, hb⟩ := D
  refine ⟨f, fd, F.okD sc_is_number (len_is_number) (fun S cdv A outer s H E hr => ?_), hm, hk, hb⟩
  refine ⟨_, _, (pss_one (ps_ret (pe_and (pe_callB call_isD (by rfl) T.n_isinstance (by decide +kernel) (pa_cons (pv 0) (pa_cons (pe_bltn rfl T.n_int (by decide +kernel) (v := .ty "int") rfl) pa_nil))) (pe_one (pe_not (pe_callB call_isD (by rfl) T.n_isinstance (by decide +kernel) (pa_cons (pv 0) (pa_cons (pe_bltn rfl T.n_bool (by decide +kernel) (v := .ty "bool") rfl) pa_nil)))))))),
    (rds_ret (rd_andV (rd_isT (by decide) (rd_var (i := 0))) (rd_notV (rd_isT (by decide) (rd_var (i := 0)))))), ?_⟩
  rintro ss n P ⟨d, rfl, hb, p⟩
  walk_at "dl"
  refine ⟨hb, ?_⟩
  cases d <;> first | exact p | exact ⟨hb, p⟩

theorem sc_is_between : FnScope ["thing", "low", "high"] ["thing", "low", "high"] (defScope s_is_between) := ⟨rfl, rfl, rfl, by decide +kernel, rfl, by decide +kernel, by decide +kernel⟩
theorem ok_is_between (T : Txt K mg cs tk0) (D : DefAt K mg "is_between" s_is_between ["thing", "low", "high"]) (c_is_number : Has P w K mg base CX0 1 "is_number" ["thing"] (sp0 K TT ds_is_number)) : Has P w K mg base CX0 2 "is_between" ["thing", "low", "high"] (sp0 K TT ds_is_between) := by
  obtain ⟨f, fd, F, hm, hk, hb⟩ := D
  obtain ⟨_, _, c_is_number_ok, c_is_number_m, c_is_number_k, c_is_number_b⟩ := c_is_number
  refine ⟨f, fd, F.okD sc_is_between (len_is_between) (fun S cdv A outer s H E hr => ?_), hm, hk, hb⟩
  refine ⟨_, _, (pss_one (ps_ret (pe_and (pe_call c_is_number_ok (hr.mono (by decide)) rfl c_is_number_m c_is_number_k c_is_number_b .nil pass0 (pa_cons (pv 0) pa_nil)) (pe_one (pe_chain op_le op_le (pv 1) (pv 0) (pv 2)))))),
    (rds_ret (rd_andV (rd_call0 (E := E0) (rda_cons (rd_var (i := 0)) rda_nil)) (rd_chain o2_cmp o2_cmp (rd_var (i := 1)) (rd_var (i := 0)) (rd_var (i := 2))))), ?_⟩
  rintro ss n P ⟨d, lo, hi, rfl, hb, p⟩
  walk_at "dl"
  refine ⟨d, rfl, hb, ?_⟩
  cases d with
  | int i =>
    simp only [isInt]
    by_cases h1 : lo ≤ i
    · simp only [h1, decide_true]
      simpa [betw, h1] using p
    · simp only [h1, decide_false]
      simpa [betw, h1] using p
  | _ => exact p

theorem sc_is_kind : FnScope ["thing"] ["thing"] (defScope s_is_kind) := ⟨rfl, rfl, rfl, by decide +kernel, rfl, by decide +kernel, by decide +kernel⟩
theorem ok_is_kind (T : Txt K mg cs tk0) (D : DefAt K mg "is_kind" s_is_kind ["thing"]) (c_is_between : Has P w K mg base CX0 2 "is_between" ["thing", "low", "high"] (sp0 K TT ds_is_between)) : Has P w K mg base CX0 3 "is_kind" ["thing"] (sp0 K TT ds_is_kind) := by
  obtain ⟨f, fd, F, hm, hk, hb⟩ := D
  obtain ⟨_, _, c_is_between_ok, c_is_between_m, c_is_between_k, c_is_between_b⟩ := c_is_between
  refine ⟨f, fd, F.okD sc_is_kind (len_is_kind) (fun S cdv A outer s H E hr => ?_), hm, hk, hb⟩
  refine ⟨_, _, (pss_one (ps_ret (pe_call c_is_between_ok (hr.mono (by decide)) rfl c_is_between_m c_is_between_k c_is_between_b .nil pass0 (pa_cons (pv 0) (pa_cons pe_int (pa_cons (pe_glob (v := .int 6) rfl T.k_MOST_KIND.2 ⟨_, rfl⟩) pa_nil)))))),
    (rds_ret (rd_call0 (E := E0) (rda_cons (rd_var (i := 0)) (rda_cons rd_int (rda_cons rd_int rda_nil))))), ?_⟩
  rintro ss n P ⟨d, rfl, hb, p⟩
  walk_at "dl"
  exact ⟨d, 1, 6, rfl, hb, p⟩

theorem sc_are_kinds : FnScope ["thing", "kind"] ["thing"] (defScope s_are_kinds) := ⟨rfl, rfl, rfl, by decide +kernel, rfl, by decide +kernel, by decide +kernel⟩
theorem ok_are_kinds (T : Txt K mg cs tk0) (D : DefAt K mg "_are_kinds" s_are_kinds ["thing"]) (c_is_kind : Has P w K mg base CX0 3 "is_kind" ["thing"] (sp0 K TT ds_is_kind)) : Has P w K mg base CX0 4 "_are_kinds" ["thing"] (sp0 K TT ds_are_kinds) := by
  obtain ⟨f, fd, F, hm, hk, hb⟩ := D
  obtain ⟨_, _, c_is_kind_ok, c_is_kind_m, c_is_kind_k, c_is_kind_b⟩ := c_is_kind
  refine ⟨f, fd, F.okD sc_are_kinds (len_are_kinds) (fun S cdv A outer s H E hr => ?_), hm, hk, hb⟩
  refine ⟨_, _, (pss_cons (ps_if (PW.pt (pw_or (pt_not (pt_val (pe_callB call_isD (by rfl) T.n_isinstance (by decide +kernel) (pa_cons (pv 0) (pa_cons (pe_bltn rfl T.n_tuple (by decide +kernel) (v := .ty "tuple") rfl) pa_nil))))) (pw_or1 (pt_not (pt_chain op_le op_le pe_int (pe_callB call_lenU (by rfl) T.n_len (by decide +kernel) (pa_cons (pv 0) pa_nil)) (pe_glob (v := .int 8) rfl T.k_MOST_MATTERS.2 ⟨_, rfl⟩)))))) (pss_one (ps_ret pe_bl)) pss_nil)
      (pss_one (ps_ret (pe_callB (cr_all rfl) (by rfl) T.n_all (by decide +kernel) (pa_cons (pe_lc (own := [("kind", 1)]) (g := gName 1) rfl sc_are_kinds.nd (pi_tup (pv 0)) (blkOk_by (N := ["thing", "kind"]) (own := [("kind", 1)]) (sc := defScope s_are_kinds) (by decide +kernel)) (fun _ _ _ _ _ => (pg_name (i := 1) sc_are_kinds.nd rfl (by first | exact Or.inl rfl | exact Or.inr rfl))) (fun _ _ _ _ _ => pts_nil) (fun _ _ _ _ _ => (pe_call c_is_kind_ok (hr.mono (by decide)) rfl c_is_kind_m c_is_kind_k c_is_kind_b .nil pass0 (pa_cons (pv 1) pa_nil)))) pa_nil))))),
    (rds_seq (rds_if (rdt_or (rdt_not (rdt_B (rd_isT (by decide) (rd_var (i := 0))))) (rdt_not (rdt_test (rd_chain o2_cmp o2_cmp rd_int (rd_cb cal_len (rda_cons (rd_var (i := 0)) rda_nil)) rd_int)))) (rds_ret rd_bl) rds_next)
      (rds_ret (rd_cb cal_all (rda_cons (rd_lc (rdj_of (rdi_tup (rd_var (i := 0)))) (rdg_name (vs := [1]) (by decide)) rdt_yes (rd_call0 (E := E0) (rda_cons (rd_var (i := 1)) rda_nil))) rda_nil)))), ?_⟩
  rintro ss n P ⟨d, rfl, hb, p⟩
  walk_at "dl"
  refine ⟨bare_of hb, ?_⟩
  cases d with
  | tup ks =>
    simp only [isTy, beq_self_eq_true, Bool.not_true]
    simp only [kindsB] at p
    by_cases h1 : 1 ≤ ks.length
    · have h1' : (1 : Int) ≤ ks.length := by omega
      simp only [h1', decide_true]
      by_cases h2 : ks.length ≤ 8
      · have h2' : (ks.length : Int) ≤ 8 := by omega
        simp only [h2', decide_true, Bool.not_true]
        refine ⟨by omega, compM_map (f := fun x => .bl (betw 1 6 x)) (fun x hx n k q => ⟨x, rfl, bare_of (nxs_mem hb hx), q⟩) (allD_map ?_)⟩
        simpa [h1, h2] using p
      · have h2' : ¬ (ks.length : Int) ≤ 8 := by omega
        simp only [h2', decide_false, Bool.not_false]
        simpa [h2] using p
    · have h1' : ¬ (1 : Int) ≤ ks.length := by omega
      simp only [h1', decide_false]
      simpa [h1] using p
  | _ => exact p

theorem sc_is_cell : FnScope ["kind", "thing"] ["kind", "thing"] (defScope s_is_cell) := ⟨rfl, rfl, rfl, by decide +kernel, rfl, by decide +kernel, by decide +kernel⟩
theorem ok_is_cell (T : Txt K mg cs tk0) (D : DefAt K mg "is_cell" s_is_cell ["kind", "thing"]) (c_is_between : Has P w K mg base CX0 2 "is_between" ["thing", "low", "high"] (sp0 K TT ds_is_between)) : Has P w K mg base CX0 3 "is_cell" ["kind", "thing"] (sp0 K TT ds_is_cell) := by
  obtain ⟨f, fd, F, hm, hk, hb⟩ := D
  obtain ⟨_, _, c_is_between_ok, c_is_between_m, c_is_between_k, c_is_between_b⟩ := c_is_between
  refine ⟨f, fd, F.okD sc_is_cell (len_is_cell) (fun S cdv A outer s H E hr => ?_), hm, hk, hb⟩
  refine ⟨_, _, (pss_one (ps_ret (pe_or (pe_cmpR op_isN (pv 1) pe_non (nomark _)) (pe_one (pe_call c_is_between_ok (hr.mono (by decide)) rfl c_is_between_m c_is_between_k c_is_between_b .nil pass0 (pa_cons (pv 1) (pa_cons pe_int (pa_cons (pe_op op_sub (pv 0) pe_int) pa_nil)))))))),
    (rds_ret (rd_orV (rd_op o2_isN (rd_var (i := 1)) rd_non) (rd_call0 (E := E0) (rda_cons (rd_var (i := 1)) (rda_cons rd_int (rda_cons (rd_op o2_sub (rd_var (i := 0)) rd_int) rda_nil)))))), ?_⟩
  rintro ss n P ⟨k, d, rfl, hb, p⟩
  walk_at "dl"
  cases d <;> exact (by first | exact p | exact ⟨_, _, _, rfl, hb, p⟩)

theorem sc_is_row_for : FnScope ["kinds", "thing", "kind", "cell"] ["kinds", "thing"] (defScope s_is_row_for) := ⟨rfl, rfl, rfl, by decide +kernel, rfl, by decide +kernel, by decide +kernel⟩
theorem ok_is_row_for (T : Txt K mg cs tk0) (D : DefAt K mg "_is_row_for" s_is_row_for ["kinds", "thing"]) (c_is_cell : Has P w K mg base CX0 3 "is_cell" ["kind", "thing"] (sp0 K TT ds_is_cell)) : Has P w K mg base CX0 4 "_is_row_for" ["kinds", "thing"] (sp0 K TT ds_is_row_for) := by
  obtain ⟨f, fd, F, hm, hk, hb⟩ := D
  obtain ⟨_, _, c_is_cell_ok, c_is_cell_m, c_is_cell_k, c_is_cell_b⟩ := c_is_cell
  refine ⟨f, fd, F.okD sc_is_row_for (len_is_row_for) (fun S cdv A outer s H E hr => ?_), hm, hk, hb⟩
  refine ⟨_, _, (pss_cons (ps_if (PW.pt (pw_or (pt_not (pt_val (pe_callB call_isD (by rfl) T.n_isinstance (by decide +kernel) (pa_cons (pv 1) (pa_cons (pe_bltn rfl T.n_tuple (by decide +kernel) (v := .ty "tuple") rfl) pa_nil))))) (pw_or1 (pt_cmpR (op_neU hr.units) (pe_callB call_lenU (by rfl) T.n_len (by decide +kernel) (pa_cons (pv 1) pa_nil)) (pe_callB call_lenU (by rfl) T.n_len (by decide +kernel) (pa_cons (pv 0) pa_nil)) (nomark _))))) (pss_one (ps_ret pe_bl)) pss_nil)
      (pss_one (ps_ret (pe_callB (cr_all rfl) (by rfl) T.n_all (by decide +kernel) (pa_cons (pe_lc (own := [("kind", 2), ("cell", 3)]) (g := gTup _ 2 (gCons (gName 2) (gCons (gName 3) gNil))) rfl sc_is_row_for.nd (RZ.pi_zipA (by rfl) T.n_zip (pa_cons (pv 0) (pa_cons (pv 1) pa_nil))) (blkOk_by (N := ["kinds", "thing", "kind", "cell"]) (own := [("kind", 2), ("cell", 3)]) (sc := defScope s_is_row_for) (by decide +kernel)) (fun _ _ _ _ _ => (pg_tup rfl (pgs_cons (pg_name (i := 2) sc_is_row_for.nd rfl (by first | exact Or.inl rfl | exact Or.inr rfl)) (pgs_cons (pg_name (i := 3) sc_is_row_for.nd rfl (by first | exact Or.inl rfl | exact Or.inr rfl)) pgs_nil)))) (fun _ _ _ _ _ => pts_nil) (fun _ _ _ _ _ => (pe_call c_is_cell_ok (hr.mono (by decide)) rfl c_is_cell_m c_is_cell_k c_is_cell_b .nil pass0 (pa_cons (pv 2) (pa_cons (pv 3) pa_nil))))) pa_nil))))),
    (rds_seq (rds_if (rdt_or (rdt_not (rdt_B (rd_isT (by decide) (rd_var (i := 1))))) (rdt_test (rd_op o2_ne (rd_cb cal_len (rda_cons (rd_var (i := 1)) rda_nil)) (rd_cb cal_len (rda_cons (rd_var (i := 0)) rda_nil))))) (rds_ret rd_bl) rds_next)
      (rds_ret (rd_cb cal_all (rda_cons (rd_lc (rdj_of (rdi_zip (rda_cons (rd_var (i := 0)) (rda_cons (rd_var (i := 1)) rda_nil)))) (rdg_two (vs := [2, 3]) (by decide) (by decide)) rdt_yes (rd_call0 (E := E0) (rda_cons (rd_var (i := 2)) (rda_cons (rd_var (i := 3)) rda_nil)))) rda_nil)))), ?_⟩
  rintro ss n P ⟨ks, d, rfl, hb, hl, hk, p⟩
  walk_at "dl"
  refine ⟨bare_of hb, ?_⟩
  cases d with
  | tup cs =>
    simp only [isTy, beq_self_eq_true, Bool.not_true]
    simp only [rowB] at p
    walk_at "dl"
    by_cases h1 : cs.length = ks.length
    · have h1' : (cs.length : Int) = ks.length := by omega
      rw [show decide ((cs.length : Int) = ks.length) = true from decide_eq_true h1', Bool.not_true]
      refine ⟨by simp [zipD]; omega, ?_⟩
      unfold zipD
      have e : (ks.zip cs).map (fun p => D.bl (cellB p.1 p.2)) = ((ks.zip cs).map fun p => D.tup [p.1, p.2]).map (fun d => match d with | .tup [a, b] => .bl (cellB a b) | _ => .non) := by simp
      refine compM_map (f := fun d => match d with | .tup [a, b] => .bl (cellB a b) | _ => .non) (fun x hx n k q => ?_) ?_
      · obtain ⟨⟨a, b⟩, hp, rfl⟩ := List.mem_map.mp hx
        have ha : betw 1 6 a = true := by
          rw [List.all_eq_true] at hk
          exact hk a (List.of_mem_zip hp).1
        have hb2 : bareD b := bare_of (nxs_mem hb (List.of_mem_zip hp).2)
        cases a with
        | int i => exact ⟨i, b, rfl, hb2, q⟩
        | _ => simp [betw] at ha
      · rw [← e]
        refine ⟨_, blsD_map, ?_⟩
        rw [all_map]
        simpa [h1] using p
    · have h1' : ¬ (cs.length : Int) = ks.length := by omega
      rw [show decide ((cs.length : Int) = ks.length) = false from decide_eq_false h1', Bool.not_false]
      simpa [h1] using p
  | _ => exact p

theorem sc_first_unread : FnScope ["rows", "matter", "row"] ["rows"] (defScope s_first_unread) := ⟨rfl, rfl, rfl, by decide +kernel, rfl, by decide +kernel, by decide +kernel⟩
theorem ok_first_unread (T : Txt K mg cs tk0) (D : DefAt K mg "first_unread" s_first_unread ["rows"]) : Has P w K mg base CX0 1 "first_unread" ["rows"] (sp0 K TT ds_first_unread) := by
  obtain ⟨f, fd, F, hm, hk, hb⟩ := D
  refine ⟨f, fd, F.okD sc_first_unread (len_first_unread) (fun S cdv A outer s H E hr => ?_), hm, hk, hb⟩
  refine ⟨_, _, (pss_cons (ps_for PassesOwn.never rfl (pi_range1 (by rfl) T.n_range (pa_cons (pe_callB call_lenU (by rfl) T.n_len (by decide +kernel) (pa_cons (pe_ix ix_seq (pv 0) pe_int (fun _ _ => rfl)) pa_nil)) pa_nil)) (pg_name (i := 1) sc_first_unread.nd rfl (by first | exact Or.inl rfl | exact Or.inr rfl)) (pss_one (ps_if (pt_val (pe_callB (cr_all rfl) (by rfl) T.n_all (by decide +kernel) (pa_cons (pe_lc (own := [("row", 2)]) (g := gName 2) rfl sc_first_unread.nd (pi_tup (pv 0)) (blkOk_by (N := ["rows", "matter", "row"]) (own := [("row", 2)]) (sc := defScope s_first_unread) (by decide +kernel)) (fun _ _ _ _ _ => (pg_name (i := 2) sc_first_unread.nd rfl (by first | exact Or.inl rfl | exact Or.inr rfl))) (fun _ _ _ _ _ => pts_nil) (fun _ _ _ _ _ => (pe_cmpR op_isN (pe_ix ix_seq (pv 2) (pv 1) (fun _ _ => rfl)) pe_non (nomark _)))) pa_nil))) (pss_one (ps_ret (pv 1))) pss_nil)))
      (pss_one (ps_ret pe_non))),
    (rds_seq (rds_for (rdi_range1 (rda_cons (rd_cb cal_len (rda_cons (rd_op o2_ix (rd_var (i := 0)) rd_int) rda_nil)) rda_nil)) (rdg_name (vs := [1]) (by decide)) (rds_if (rdt_B (rd_cb cal_all (rda_cons (rd_lc (rdj_of (rdi_tup (rd_var (i := 0)))) (rdg_name (vs := [2]) (by decide)) rdt_yes (rd_op o2_isN (rd_op o2_ix (rd_var (i := 2)) (rd_var (i := 1))) rd_non)) rda_nil))) (rds_ret (rd_var (i := 1))) rds_next))
      (rds_ret rd_non)), ?_⟩
  rintro ss n P ⟨m, rs, rfl, h1, h2, h3, hr, p⟩
  walk_at "dl"
  have h0 : ∃ c0 : List D, atD rs 0 = some (.tup c0) ∧ c0.length = m := by
    cases rs with
    | nil => simp at h1
    | cons a b =>
      obtain ⟨c0, rfl, hc⟩ := hr a List.mem_cons_self
      exact ⟨c0, at_zero, hc⟩
  obtain ⟨c0, e0, hc0⟩ := h0
  refine ⟨_, e0, ?_⟩
  walk_at "dl"
  refine ⟨by omega, by omega, fun i ρ n' => n' = n ∧ (∃ s1 s2, ρ = [.d (.tup rs), s1, s2]) ∧ ∀ j < i, colU rs j = false, ⟨rfl, ⟨_, _, rfl⟩, fun j hj => by omega⟩, ?_, ?_⟩
  · rintro i x ρ n' hx ⟨rfl, ⟨s1, s2, rfl⟩, hI⟩
    have hi : i < m ∧ x = .int (i : Int) := by
      unfold rangeD at hx
      rw [List.getElem?_map] at hx
      rw [Int.toNat_natCast] at hx
      cases e : (List.range c0.length)[i]? with
      | none => rw [e] at hx; cases hx
      | some j =>
        rw [e] at hx
        have h2 := List.getElem?_eq_some_iff.mp e
        obtain ⟨h3, h4⟩ := h2
        simp at h3 h4
        subst h4
        cases hx
        exact ⟨by omega, by simp⟩
    obtain ⟨hi, rfl⟩ := hi
    walk_at "dl"
    refine ⟨by omega, compM_map (f := fun r => .bl (DL.isNon (atN r i))) (fun r hm n2 k q => ?_) (allD_map ?_)⟩
    · obtain ⟨cs, rfl, hc⟩ := hr r hm
      have e : cs[i]? = some cs[i] := List.getElem?_eq_getElem (by omega)
      refine ⟨_, at_nat e, ?_⟩
      have z : atN (.tup cs) i = cs[i] := by
        show cs.getD i .non = cs[i]
        rw [List.getD_eq_getElem?_getD, e]
        rfl
      rw [z] at q
      exact q
    · cases hc : colU rs i with
      | true =>
        rw [show (rs.all fun r => DL.isNon (atN r i)) = true from hc]
        rw [firstU_some hi hc hI] at p
        exact p
      | false =>
        rw [show (rs.all fun r => DL.isNon (atN r i)) = false from hc]
        refine ⟨rfl, ⟨_, _, rfl⟩, fun j hj => ?_⟩
        by_cases e : j = i
        · rw [e]; exact hc
        · exact hI j (by omega)
  · rintro ρ n' ⟨rfl, _, hI⟩
    rw [firstU_none (fun j hj => hI j (by simp [rangeD]; omega))] at p
    exact p

theorem sc_are_rows : FnScope ["kinds", "thing", "row"] ["kinds", "thing"] (defScope s_are_rows) := ⟨rfl, rfl, rfl, by decide +kernel, rfl, by decide +kernel, by decide +kernel⟩
theorem ok_are_rows (T : Txt K mg cs tk0) (D : DefAt K mg "_are_rows" s_are_rows ["kinds", "thing"]) (c_is_row_for : Has P w K mg base CX0 4 "_is_row_for" ["kinds", "thing"] (sp0 K TT ds_is_row_for)) (c_first_unread : Has P w K mg base CX0 1 "first_unread" ["rows"] (sp0 K TT ds_first_unread)) : Has P w K mg base CX0 5 "_are_rows" ["kinds", "thing"] (sp0 K TT ds_are_rows) := by
  obtain ⟨f, fd, F, hm, hk, hb⟩ := D
  obtain ⟨_, _, c_is_row_for_ok, c_is_row_for_m, c_is_row_for_k, c_is_row_for_b⟩ := c_is_row_for
  obtain ⟨_, _, c_first_unread_ok, c_first_unread_m, c_first_unread_k, c_first_unread_b⟩ := c_first_unread
  refine ⟨f, fd, F.okD sc_are_rows (len_are_rows) (fun S cdv A outer s H E hr => ?_), hm, hk, hb⟩
  refine ⟨_, _, (pss_cons (ps_if (PW.pt (pw_or (pt_not (pt_val (pe_callB call_isD (by rfl) T.n_isinstance (by decide +kernel) (pa_cons (pv 1) (pa_cons (pe_bltn rfl T.n_tuple (by decide +kernel) (v := .ty "tuple") rfl) pa_nil))))) (pw_or1 (pt_not (pt_chain op_le op_le pe_int (pe_callB call_lenU (by rfl) T.n_len (by decide +kernel) (pa_cons (pv 1) pa_nil)) (pe_glob (v := .int 12) rfl T.k_MOST_VALLEYS.2 ⟨_, rfl⟩)))))) (pss_one (ps_ret pe_bl)) pss_nil)
      (pss_one (ps_ret (pe_and (pe_callB (cr_all rfl) (by rfl) T.n_all (by decide +kernel) (pa_cons (pe_lc (own := [("row", 2)]) (g := gName 2) rfl sc_are_rows.nd (pi_tup (pv 1)) (blkOk_by (N := ["kinds", "thing", "row"]) (own := [("row", 2)]) (sc := defScope s_are_rows) (by decide +kernel)) (fun _ _ _ _ _ => (pg_name (i := 2) sc_are_rows.nd rfl (by first | exact Or.inl rfl | exact Or.inr rfl))) (fun _ _ _ _ _ => pts_nil) (fun _ _ _ _ _ => (pe_call c_is_row_for_ok (hr.mono (by decide)) rfl c_is_row_for_m c_is_row_for_k c_is_row_for_b .nil pass0 (pa_cons (pv 0) (pa_cons (pv 2) pa_nil))))) pa_nil)) (pe_one (pe_cmpR op_isN (pe_call c_first_unread_ok (hr.mono (by decide)) rfl c_first_unread_m c_first_unread_k c_first_unread_b .nil pass0 (pa_cons (pv 1) pa_nil)) pe_non (nomark _))))))),
    (rds_seq (rds_if (rdt_or (rdt_not (rdt_B (rd_isT (by decide) (rd_var (i := 1))))) (rdt_not (rdt_test (rd_chain o2_cmp o2_cmp rd_int (rd_cb cal_len (rda_cons (rd_var (i := 1)) rda_nil)) rd_int)))) (rds_ret rd_bl) rds_next)
      (rds_ret (rd_andV (rd_cb cal_all (rda_cons (rd_lc (rdj_of (rdi_tup (rd_var (i := 1)))) (rdg_name (vs := [2]) (by decide)) rdt_yes (rd_call0 (E := E0) (rda_cons (rd_var (i := 0)) (rda_cons (rd_var (i := 2)) rda_nil)))) rda_nil)) (rd_op o2_isN (rd_call0 (E := E0) (rda_cons (rd_var (i := 1)) rda_nil)) rd_non)))), ?_⟩
  rintro ss n P ⟨ks, d, rfl, hb, hk, p⟩
  simp only [kindsB, Bool.and_eq_true, decide_eq_true_eq] at hk
  walk_at "dl"
  refine ⟨bare_of hb, ?_⟩
  cases d with
  | tup rs =>
    simp only [isTy, beq_self_eq_true, Bool.not_true]
    simp only [rowsB] at p
    by_cases h1 : 1 ≤ rs.length
    · have h1' : (1 : Int) ≤ rs.length := by omega
      simp only [h1', decide_true]
      by_cases h2 : rs.length ≤ 12
      · have h2' : (rs.length : Int) ≤ 12 := by omega
        simp only [h2', decide_true, Bool.not_true]
        refine ⟨by omega, compM_map (f := fun x => .bl (rowB ks x)) (fun x hx n k q => ⟨ks, x, rfl, nxs_mem hb hx, Nat.le_trans hk.1.2 (by decide), hk.2, q⟩) (allD_map ?_)⟩
        simp only [h1, h2, decide_true, Bool.true_and] at p
        cases hr : rs.all (rowB ks) with
        | false =>
          rw [hr] at p
          exact p
        | true =>
          rw [hr] at p
          simp only [Bool.true_and] at p
          refine ⟨ks.length, rs, rfl, by omega, by omega, by omega, fun r hm => ?_, ?_⟩
          · rw [List.all_eq_true] at hr
            obtain ⟨cs, e1, e2, _⟩ := rowB_inv (hr r hm)
            exact ⟨cs, e1, e2⟩
          · cases hf : firstU ks.length rs with
            | none => rw [hf] at p; exact p
            | some j => rw [hf] at p; exact p
      · have h2' : ¬ (rs.length : Int) ≤ 12 := by omega
        simp only [h2', decide_false, Bool.not_false]
        simpa [h2] using p
    · have h1' : ¬ (1 : Int) ≤ rs.length := by omega
      simp only [h1', decide_false]
      simpa [h1] using p
  | _ => exact p

theorem sc_law_put : FnScope ["row", "spot", "item"] ["row", "spot", "item"] (defScope s_law_put) := ⟨rfl, rfl, rfl, by decide +kernel, rfl, by decide +kernel, by decide +kernel⟩
theorem ok_law_put (T : Txt K mg cs tk0) (D : DefAt K mg "_law_put" s_law_put ["row", "spot", "item"]) : Has P w K mg base CX0 1 "_law_put" ["row", "spot", "item"] (sp0 K TT ds_law_put) := by
  obtain ⟨f, fd, F, hm, hk, hb⟩ := D
  refine ⟨f, fd, F.okD sc_law_put (len_law_put) (fun S cdv A outer s H E hr => ?_), hm, hk, hb⟩
  refine ⟨_, _, (pss_one (ps_ret (pe_op op_addU (pe_op op_addU (pe_slice sl_U (pv 0) po_none (po_some (pv 1))) (pe_tup (pa_cons (pv 2) pa_nil))) (pe_slice sl_U (pv 0) (po_some (pe_op op_addU (pv 1) pe_int)) po_none)))),
    (rds_ret (rd_op o2_add (rd_op o2_add (rd_sl (rd_var (i := 0)) rdo_none (rdo_some (rd_var (i := 1)))) (rd_tup (rda_cons (rd_var (i := 2)) rda_nil))) (rd_sl (rd_var (i := 0)) (rdo_some (rd_op o2_add (rd_var (i := 1)) rd_int)) rdo_none))), ?_⟩
  rintro ss n P ⟨xs, i, d, rfl, hi, hl, p⟩
  walk_at "dl"
  rw [cut_to, cut_from1]
  exact ⟨by simp; omega, by simp; omega, p⟩

theorem sc_law_draw : FnScope ["state", "size_here", "turn", "cell", "mixed", "found"] ["state", "size_here"] (defScope s_law_draw) := ⟨rfl, rfl, rfl, by decide +kernel, rfl, by decide +kernel, by decide +kernel⟩
theorem ok_law_draw (T : Txt K mg cs tk0) (D : DefAt K mg "_law_draw" s_law_draw ["state", "size_here"]) : Has P w K mg base CX0 1 "_law_draw" ["state", "size_here"] (sp0 K TT ds_law_draw) := by
  obtain ⟨f, fd, F, hm, hk, hb⟩ := D
  refine ⟨f, fd, F.okD sc_law_draw (len_law_draw) (fun S cdv A outer s H E hr => ?_), hm, hk, hb⟩
  refine ⟨_, _, (pss_cons (ps_while PassesOwn.never (PW.pt (pw_and (pt_cmpR (op_eqD hr.units) (pe_dget (hu_of hr) (pv 0) pe_str (fun _ _ => rfl)) pe_int (nomark _)) (pw_and1 (pt_cmpR (op_neD hr.units) (pe_dget (hu_of hr) (pv 0) pe_str (fun _ _ => rfl)) (pe_lst pa_nil) (nomark _))))) (pss_one (ps_dput (hu_of hr) (pv 0) pe_str (pe_bm PySem.F.plainAttrs_list PySem.F.slot_list_pop PySem.F.type_list_pop mt_popAt (pe_dget (hu_of hr) (pv 0) pe_str (fun _ _ => rfl)) (pa_cons pe_int pa_nil)) rfl)))
      (pss_cons (ps_if (pt_cmpR op_gt (pe_dget (hu_of hr) (pv 0) pe_str (fun _ _ => rfl)) pe_int (nomark _)) (pss_cons (ps_set (i := 5) sc_law_draw.nd rfl (by first | exact Or.inl rfl | exact Or.inr rfl) (pe_op op_modN (pe_callTy call_rInt1 (by rfl) T.n_int (by decide +kernel) (pa_cons (pe_dget (hu_of hr) (pv 0) pe_str (fun _ _ => rfl)) pa_nil)) (pv 1)))
      (pss_cons (ps_dput (hu_of hr) (pv 0) pe_str (pe_op op_fdivN (pe_dget (hu_of hr) (pv 0) pe_str (fun _ _ => rfl)) (pv 1)) rfl)
      (pss_one (ps_ret (pv 5))))) pss_nil)
      (pss_cons (ps_set (i := 2) sc_law_draw.nd rfl (by first | exact Or.inl rfl | exact Or.inr rfl) (pe_op op_addU (pe_dget (hu_of hr) (pv 0) pe_str (fun _ _ => rfl)) pe_int))
      (pss_cons (ps_dput (hu_of hr) (pv 0) pe_str (pv 2) rfl)
      (pss_cons (ps_set (i := 3) sc_law_draw.nd rfl (by first | exact Or.inl rfl | exact Or.inr rfl) (pe_ifExp (pt_cmpR (op_neU hr.units) (pe_dget (hu_of hr) (pv 0) pe_str (fun _ _ => rfl)) (pe_lst pa_nil) (nomark _)) (pe_ix ix_seq (pe_dget (hu_of hr) (pv 0) pe_str (fun _ _ => rfl)) (pe_op op_modN (pe_callTy call_rInt1 (by rfl) T.n_int (by decide +kernel) (pa_cons (pv 2) pa_nil)) (pe_callB call_lenU (by rfl) T.n_len (by decide +kernel) (pa_cons (pe_dget (hu_of hr) (pv 0) pe_str (fun _ _ => rfl)) pa_nil))) (fun _ _ => rfl)) pe_int))
      (pss_cons (ps_set (i := 4) sc_law_draw.nd rfl (by first | exact Or.inl rfl | exact Or.inr rfl) (pe_op op_modN (pe_callTy call_rInt1 (by rfl) T.n_int (by decide +kernel) (pa_cons (pe_op op_pow (pe_op op_addU (pe_op op_addU (pe_op op_modN (pe_callTy call_rInt1 (by rfl) T.n_int (by decide +kernel) (pa_cons (pv 3) pa_nil)) pe_int) (pe_op op_mulU pe_int (pv 2))) pe_int) pe_int) pa_nil)) pe_int))
      (pss_one (ps_ret (pe_op op_modN (pe_callTy call_rInt1 (by rfl) T.n_int (by decide +kernel) (pa_cons (pe_op op_fdivN (pe_op op_modN (pe_callTy call_rInt1 (by rfl) T.n_int (by decide +kernel) (pa_cons (pe_op op_pow (pe_op op_addU (pv 4) (pe_op op_mulU pe_int (pv 2))) pe_int) pa_nil)) pe_int) pe_int) pa_nil)) (pv 1)))))))))),
    (rds_seq (rds_loop (i := 0))
      (rds_seq (rds_if (rdt_test (rd_op o2_cmp (rd_stLeft (i := 0)) rd_int)) (rds_seq (rds_set (rd_op o2_int (rd_cb cal_int (rda_cons (rd_stLeft (i := 0)) rda_nil)) (rd_var (i := 1))))
      (rds_seq (rds_stLeft (i := 0) (rd_op o2_int (rd_stLeft (i := 0)) (rd_var (i := 1))))
      (rds_ret (rd_var (i := 5))))) rds_next)
      (rds_seq (rds_set (rd_op o2_add (rd_stTurn (i := 0)) rd_int))
      (rds_seq (rds_stTurn (i := 0) (rd_var (i := 2)))
      (rds_seq (rds_set (rd_if (rdt_test (rd_op o2_ne (rd_stCells (i := 0)) (rd_lst rda_nil))) (rd_op o2_ix (rd_stCells (i := 0)) (rd_op o2_int (rd_cb cal_int (rda_cons (rd_var (i := 2)) rda_nil)) (rd_cb cal_len (rda_cons (rd_stCells (i := 0)) rda_nil)))) rd_int))
      (rds_seq (rds_set (rd_op o2_int (rd_cb cal_int (rda_cons (rd_op o2_int (rd_op o2_add (rd_op o2_add (rd_op o2_int (rd_cb cal_int (rda_cons (rd_var (i := 3)) rda_nil)) rd_int) (rd_op o2_mul rd_int (rd_var (i := 2)))) rd_int) rd_int) rda_nil)) rd_int))
      (rds_ret (rd_op o2_int (rd_cb cal_int (rda_cons (rd_op o2_int (rd_op o2_int (rd_cb cal_int (rda_cons (rd_op o2_int (rd_op o2_add (rd_var (i := 4)) (rd_op o2_mul rd_int (rd_var (i := 2)))) rd_int) rda_nil)) rd_int) rd_int) rda_nil)) (rd_var (i := 1)))))))))), ?_⟩
  rintro ss n P ⟨z, rfl, h0, h1, hn, p⟩
  have hn' : n < 1099511627776 := hn
  walk_at "dl"
  intro m hm
  by_cases hm0 : 0 < m
  · rw [show decide (0 < m) = true from decide_eq_true hm0]
    exact fun m hm => ⟨by omega, fun m1 hm1 => ⟨⟨by omega, by omega⟩, Int.fdiv_nonneg hm1 (by omega), p _ _ (Int.fmod_nonneg_of_pos _ h0) (Int.fmod_lt_of_pos _ h0) (by omega)⟩⟩
  · rw [show decide (0 < m) = false from decide_eq_false hm0]
    refine fun t ht => ⟨by omega, fun hc hl => eq_ints ?_⟩
    cases he : S.cs.isEmpty with
    | false =>
      refine fun _ _ _ _ => ⟨?_, ?_⟩
      · cases hcs : S.cs with
        | nil => rw [hcs] at he; cases he
        | cons a b => simp <;> omega
      · have hpos : (0 : Int) < S.cs.length := by
          cases hcs : S.cs with
          | nil => rw [hcs] at he; cases he
          | cons a b => simp <;> omega
        rw [List.length_map]
        obtain ⟨j, hj⟩ := Int.eq_ofNat_of_zero_le (Int.fmod_nonneg_of_pos ((t : Int) + 1) hpos)
        have hj2 := Int.fmod_lt_of_pos ((t : Int) + 1) hpos
        rw [hj] at hj2 ⊢
        have hj3 : j < S.cs.length := by omega
        have e : (S.cs.map D.int)[j]? = some (.int S.cs[j]) := by rw [List.getElem?_map, List.getElem?_eq_getElem hj3]; rfl
        refine ⟨_, at_nat e, ?_⟩
        clear hj hj2 e
        generalize S.cs[j] = c
        walk_at "dl"
        refine ⟨by decide, .inl ⟨by decide, by decide⟩, ⟨by decide, by decide, ?_⟩, by decide, .inl ⟨by decide, by decide⟩, ⟨by decide, by decide, ?_⟩, by decide, ⟨by decide, by decide⟩, by omega, p _ _ (Int.fmod_nonneg_of_pos _ h0) (Int.fmod_lt_of_pos _ h0) (by omega)⟩
        · have a1 := Int.fmod_nonneg_of_pos c (show (0 : Int) < 2147483563 by decide)
          have a2 := Int.fmod_lt_of_pos c (show (0 : Int) < 2147483563 by decide)
          omega
        · generalize (Int.fmod c 2147483563 + 40692 * ((t : Int) + 1) + 24681) ^ Int.toNat 3 = y
          have a1 := Int.fmod_nonneg_of_pos y (show (0 : Int) < 2147483629 by decide)
          have a2 := Int.fmod_lt_of_pos y (show (0 : Int) < 2147483629 by decide)
          omega
    | true =>
      walk_at "dl"
      refine ⟨by decide, .inl ⟨by decide, by decide⟩, ⟨by decide, by decide, ?_⟩, by decide, .inl ⟨by decide, by decide⟩, ⟨by decide, by decide, ?_⟩, by decide, ⟨by decide, by decide⟩, by omega, p _ _ (Int.fmod_nonneg_of_pos _ h0) (Int.fmod_lt_of_pos _ h0) (by omega)⟩
      · have a1 := Int.fmod_nonneg_of_pos 0 (show (0 : Int) < 2147483563 by decide)
        have a2 := Int.fmod_lt_of_pos 0 (show (0 : Int) < 2147483563 by decide)
        omega
      · generalize (Int.fmod 0 2147483563 + 40692 * ((t : Int) + 1) + 24681) ^ Int.toNat 3 = y
        have a1 := Int.fmod_nonneg_of_pos y (show (0 : Int) < 2147483629 by decide)
        have a2 := Int.fmod_lt_of_pos y (show (0 : Int) < 2147483629 by decide)
        omega

theorem sc_law_pick : FnScope ["state", "several"] ["state", "several"] (defScope s_law_pick) := ⟨rfl, rfl, rfl, by decide +kernel, rfl, by decide +kernel, by decide +kernel⟩
theorem ok_law_pick (T : Txt K mg cs tk0) (D : DefAt K mg "_law_pick" s_law_pick ["state", "several"]) (c_law_draw : Has P w K mg base CX0 1 "_law_draw" ["state", "size_here"] (sp0 K TT ds_law_draw)) : Has P w K mg base CX0 2 "_law_pick" ["state", "several"] (sp0 K TT ds_law_pick) := by
  obtain ⟨f, fd, F, hm, hk, hb⟩ := D
  obtain ⟨_, _, c_law_draw_ok, c_law_draw_m, c_law_draw_k, c_law_draw_b⟩ := c_law_draw
  refine ⟨f, fd, F.okD sc_law_pick (len_law_pick) (fun S cdv A outer s H E hr => ?_), hm, hk, hb⟩
  refine ⟨_, _, (pss_one (ps_ret (pe_ix ix_seq (pv 1) (pe_call c_law_draw_ok (hr.mono (by decide)) rfl c_law_draw_m c_law_draw_k c_law_draw_b .nil pass0 (pa_cons (pv 0) (pa_cons (pe_callB call_lenU (by rfl) T.n_len (by decide +kernel) (pa_cons (pv 1) pa_nil)) pa_nil))) (fun _ _ => rfl)))),
    (rds_ret (rd_op o2_ix (rd_var (i := 1)) (rd_call0 (E := E0) (rda_st (i := 0) (rda_cons (rd_cb cal_len (rda_cons (rd_var (i := 1)) rda_nil)) rda_nil))))), ?_⟩
  rintro ss n P ⟨xs, hs, h0, h1, hn, p⟩
  have go : ∀ (r : Int) (n' : Nat), 0 ≤ r → r < xs.length → n' ≤ n + 1 → ∃ d, atD xs r = some d ∧ P d n' := fun r n' h2 h3 h4 => by
    obtain ⟨j, rfl⟩ := Int.eq_ofNat_of_zero_le h2
    have hj : j < xs.length := by omega
    exact ⟨xs[j], at_nat (List.getElem?_eq_getElem hj), p _ (List.getElem_mem hj) _ h4⟩
  rcases hs with rfl | rfl
  · walk_at "dl"
    exact ⟨_, rfl, by omega, by omega, hn, go⟩
  · walk_at "dl"
    exact ⟨_, rfl, by omega, by omega, hn, go⟩

theorem sc_law_bad_table : FnScope ["state"] ["state"] (defScope s_law_bad_table) := ⟨rfl, rfl, rfl, by decide +kernel, rfl, by decide +kernel, by decide +kernel⟩
theorem ok_law_bad_table (T : Txt K mg cs tk0) (D : DefAt K mg "_law_bad_table" s_law_bad_table ["state"]) (c_law_pick : Has P w K mg base CX0 2 "_law_pick" ["state", "several"] (sp0 K TT ds_law_pick)) : Has P w K mg base CX0 3 "_law_bad_table" ["state"] (sp0 K TT ds_law_bad_table) := by
  obtain ⟨f, fd, F, hm, hk, hb⟩ := D
  obtain ⟨_, _, c_law_pick_ok, c_law_pick_m, c_law_pick_k, c_law_pick_b⟩ := c_law_pick
  refine ⟨f, fd, F.okD sc_law_bad_table (len_law_bad_table) (fun S cdv A outer s H E hr => ?_), hm, hk, hb⟩
  refine ⟨_, _, (pss_one (ps_ret (pe_call c_law_pick_ok (hr.mono (by decide)) rfl c_law_pick_m c_law_pick_k c_law_pick_b .nil pass0 (pa_cons (pv 0) (pa_cons (pe_lst (pa_cons pe_non (pa_cons pe_int (pa_cons (pe_tup pa_nil) (pa_cons pe_dnewK (pa_cons pe_str (pa_cons (pe_tup (pa_cons (pe_tup (pa_cons pe_int pa_nil)) (pa_cons (pe_tup (pa_cons (pe_tup (pa_cons pe_int pa_nil)) pa_nil)) pa_nil))) pa_nil))))))) pa_nil))))),
    (rds_ret (rd_call0 (E := E0) (rda_st (i := 0) (rda_cons (rd_lst (rda_cons rd_non (rda_cons rd_int (rda_cons (rd_tup rda_nil) (rda_cons rd_dnew (rda_cons rd_str (rda_cons (rd_tup (rda_cons (rd_tup (rda_cons rd_int rda_nil)) (rda_cons (rd_tup (rda_cons (rd_tup (rda_cons rd_int rda_nil)) rda_nil)) rda_nil))) rda_nil))))))) rda_nil)))), ?_⟩
  rintro ss n P ⟨rfl, hn, p⟩
  walk_at "dl"
  refine ⟨_, .inr rfl, by simp, by simp, hn, fun x hx n' h => ?_⟩
  have z : nx x = true ∧ ∀ C ns ds, x ≠ .ins C ns ds := by
    revert x
    simp [nx, nxs]
  exact p _ _ h z.1 z.2

theorem sc_Table_init : FnScope ["self", "kinds", "rows"] ["self", "kinds", "rows"] (defScope s_Table_init) := ⟨rfl, rfl, rfl, by decide +kernel, rfl, by decide +kernel, by decide +kernel⟩
theorem ok_Table_init (T : Txt K mg cs tk0) (D : Init2 K "Table.__init__" cs.Table s_Table_init "kinds" "rows") (c_are_kinds : Has P w K mg base CX0 4 "_are_kinds" ["thing"] (sp0 K TT ds_are_kinds)) (c_are_rows : Has P w K mg base CX0 5 "_are_rows" ["kinds", "thing"] (sp0 K TT ds_are_rows)) : HasI P w K mg base 6 cs.Table "kinds" "rows" (spI K TT cs.Table (ds_Table_init cs)) := by
  obtain ⟨f, fd, F, hm, hk, hb⟩ := D
  obtain ⟨_, _, c_are_kinds_ok, c_are_kinds_m, c_are_kinds_k, c_are_kinds_b⟩ := c_are_kinds
  obtain ⟨_, _, c_are_rows_ok, c_are_rows_m, c_are_rows_k, c_are_rows_b⟩ := c_are_rows
  refine ⟨f, fd, okI F sc_Table_init (len_Table_init cs) (fun S cdv A outer s H E hr => ?_), hm, hk, hb⟩
  have tk := takes_of (X := cxOf (L2.CX P w) P w K mg base ["self", "kinds", "rows"] "Table.__init__" (defScope s_Table_init) f cdv A outer s H E) (E := E) rfl rfl rfl rfl
  refine ⟨_, _, (pss_cons (ps_if (pt_not (pt_val (pe_call c_are_kinds_ok (hr.mono (by decide)) rfl c_are_kinds_m c_are_kinds_k c_are_kinds_b .nil pass0 (pa_cons (pv 1) pa_nil)))) (pss_one (ps_raise (W := fun cls d _ H => E cls d H) rfl tk (pmk_own PySem.F.excBase_ValueError T.x_BadKinds T.g_BadKinds T.e_BadKinds (raises_own T.b_BadKinds T.t_BadKinds) rfl))) pss_nil)
      (pss_cons (ps_if (pt_not (pt_val (pe_call c_are_rows_ok (hr.mono (by decide)) rfl c_are_rows_m c_are_rows_k c_are_rows_b .nil pass0 (pa_cons (pv 1) (pa_cons (pv 2) pa_nil))))) (pss_one (ps_raise (W := fun cls d _ H => E cls d H) rfl tk (pmk_own PySem.F.excBase_ValueError T.x_BadRows T.g_BadRows T.e_BadRows (raises_own T.b_BadRows T.t_BadRows) rfl))) pss_nil)
      (pss_cons (ps_fld (pv 0) (pv 1) rfl)
      (pss_one (ps_fld (pv 0) (pv 2) rfl))))),
    (rds_seq (rds_if (rdt_not (rdt_B (rd_call0 (E := E0) (rda_cons (rd_var (i := 1)) rda_nil)))) rds_raise rds_next)
      (rds_seq (rds_if (rdt_not (rdt_B (rd_call0 (E := E0) (rda_cons (rd_var (i := 1)) (rda_cons (rd_var (i := 2)) rda_nil))))) rds_raise rds_next)
      (rds_seq (rds_fldM (rd_var (i := 1)))
      (rds_fldM (rd_var (i := 2)))))), ?_⟩
  rintro y ss n P XP ⟨k, r, rfl, hk, hr', h1, h2, h3⟩
  walk_at "dl"
  refine ⟨k, rfl, hk, ?_⟩
  cases e : kindsB k with
  | false => exact h1 e
  | true =>
    cases k with
    | tup ks =>
      refine ⟨ks, r, rfl, hr', e, ?_⟩
      cases e2 : rowsB ks r with
      | false => exact h2 e e2
      | true => exact ⟨rfl, T.ic_Table.cl, T.na_Table_kinds, by decide, by decide, rfl, T.ic_Table.cl, T.na_Table_rows, by decide, by decide, rfl, rfl, h3 e e2⟩
    | _ => simp [kindsB] at e

theorem sc_check_table : FnScope ["table"] ["table"] (defScope s_check_table) := ⟨rfl, rfl, rfl, by decide +kernel, rfl, by decide +kernel, by decide +kernel⟩
theorem ok_check_table (T : Txt K mg cs tk0) (D : DefAt K mg "check_table" s_check_table ["table"]) : Has P w K mg base (L2.CX P w) 1 "check_table" ["table"] (spX K TT (ds_check_table cs)) := by
  obtain ⟨f, fd, F, hm, hk, hb⟩ := D
  refine ⟨f, fd, F.okXD sc_check_table (len_check_table cs) (fun S cdv A outer s H E hr => ?_), hm, hk, hb⟩
  have tk := takes_of (X := cxOf (L2.CX P w) P w K mg base ["table"] "check_table" (defScope s_check_table) f cdv A outer s H E) (E := E) rfl rfl rfl rfl
  refine ⟨_, _, (pss_one (ps_if (pt_not (pt_val (pe_callB call_isD (by rfl) T.n_isinstance (by decide +kernel) (pa_cons (pv 0) (pa_cons (pe_glob (v := .ref cs.Table) rfl T.g_Table rfl) pa_nil))))) (pss_one (ps_raise (W := fun cls d _ H => E cls d H) rfl tk (pmk_own PySem.F.excBase_ValueError T.x_BadTable T.g_BadTable T.e_BadTable (raises_own T.b_BadTable T.t_BadTable) rfl))) pss_nil)),
    (rds_if (rdt_not (rdt_B (rd_is (.own _) (rd_var (i := 0))))) rds_raise rds_next), ?_⟩
  rintro ss n P XP ⟨d, rfl, h⟩
  walk_at "dl"
  rcases h with ⟨ks, rs, rfl, p⟩ | ⟨h1, h2, p⟩
  · exact ⟨trivial, true, T.i_Table, p⟩
  · exact ⟨bare_of h1, false, kit_no T.no_Table h1 h2, p⟩

theorem sc_law_made : FnScope ["scope"] ["scope"] (defScope s_law_made) := ⟨rfl, rfl, rfl, by decide +kernel, rfl, by decide +kernel, by decide +kernel⟩
theorem ok_law_made (T : Txt K mg cs tk0) (D : DefAt K mg "_law_made" s_law_made ["scope"]) (c_Table : HasI P w K mg base 6 cs.Table "kinds" "rows" (spI K TT cs.Table (ds_Table_init cs))) : Has P w K mg base CX0 8 "_law_made" ["scope"] (sp0 K TT (ds_law_made cs)) := by
  obtain ⟨f, fd, F, hm, hk, hb⟩ := D
  obtain ⟨_, _, c_Table_ok, c_Table_mk, c_Table_b, c_Table_kb⟩ := c_Table
  refine ⟨f, fd, F.okD sc_law_made (len_law_made cs) (fun S cdv A outer s H E hr => ?_), hm, hk, hb⟩
  refine ⟨_, _, (pss_one (ps_ret (pe_make c_Table_mk c_Table_ok (hr.mono (by decide)) rfl T.g_Table c_Table_b .nil passL (pa_cons (pe_dget (hu_of hr) (pv 0) pe_str (fun _ _ => rfl)) (pa_cons (pe_dget (hu_of hr) (pv 0) pe_str (fun _ _ => rfl)) pa_nil))))),
    (rds_ret (rd_make (rda_cons (rd_dget (rd_var (i := 0)) rd_str) (rda_cons (rd_dget (rd_var (i := 0)) rd_str) rda_nil)))), ?_⟩
  rintro ss n P ⟨ks, rs, rfl, hk, hr', h1, h2, p⟩
  walk_at "dl"
  exact ⟨T.ic_Table, .tup ks, .tup rs, rfl, hk, hr', (fun z => by rw [h1] at z; cases z), (fun _ z => by rw [h2] at z; cases z), fun _ _ => p⟩

theorem sc_law_begun : FnScope ["script", "cells_here", "large", "cell"] ["script"] (defScope s_law_begun) := ⟨rfl, rfl, rfl, by decide +kernel, rfl, by decide +kernel, by decide +kernel⟩
theorem ok_law_begun (T : Txt K mg cs tk0) (D : DefAt K mg "_law_begun" s_law_begun ["script"]) : Has P w K mg base CX0 1 "_law_begun" ["script"] (spBegun K) := by
  obtain ⟨f, fd, F, hm, hk, hb⟩ := D
  refine ⟨f, fd, F.ok sc_law_begun (fun vs H Q E h => by obtain ⟨a, ns, rfl, _⟩ := h; rfl) (fun cdv A outer s H vs Q E hr h => ?_), hm, hk, hb⟩
  obtain ⟨a, ns, rfl, hS, hl, q⟩ := h
  refine ⟨_, (pss_cons (ps_setLc (i := 1) (own := [("cell", 3)]) (g := gName 3) rfl sc_law_begun.nd rfl rfl (sw_true rfl rfl rfl (by decide +kernel)) (pi_list (pv 0)) (blkOk_by (N := ["script", "cells_here", "large", "cell"]) (own := [("cell", 3)]) (sc := defScope s_law_begun) (by decide +kernel)) (fun _ _ _ _ _ => (pg_name (i := 3) sc_law_begun.nd rfl (by first | exact Or.inl rfl | exact Or.inr rfl))) (fun _ _ _ _ _ => pts_nil) (fun _ _ _ _ _ => (pe_callB call_rAbs (by rfl) T.n_abs (by decide +kernel) (pa_cons (pv 3) pa_nil))))
      (pss_cons (ps_setLc (i := 2) (own := [("cell", 3)]) (g := gName 3) rfl sc_law_begun.nd rfl rfl (sw_true rfl rfl rfl (by decide +kernel)) (pi_list (pv 1)) (blkOk_by (N := ["script", "cells_here", "large", "cell"]) (own := [("cell", 3)]) (sc := defScope s_law_begun) (by decide +kernel)) (fun _ _ _ _ _ => (pg_name (i := 3) sc_law_begun.nd rfl (by first | exact Or.inl rfl | exact Or.inr rfl))) (fun _ _ _ _ _ => (pts_one (pt_cmpR op_ge (pv 3) (pe_op op_pow pe_int pe_int) (nomark _)))) (fun _ _ _ _ _ => (pe_op op_sub (pv 3) (pe_op op_pow pe_int pe_int))))
      (pss_one (ps_ret (pe_disp (pps_cons pe_str (pv 2) (pps_cons pe_str (pv 1) (pps_cons pe_str pe_int (pps_cons pe_str pe_int pps_nil)))) (by rfl) (by rfl) (fun z => by cases z) (by decide)))))), ?_⟩
  refine ⟨.ref a, rfl, a, rfl, ⟨_, hS⟩, fun c hc => lc_list (xs := ns.map V.int) (fun i Hx => Hx = upd H c (.lst (((ns.take i).map absI).map V.int))) (by simp) ?_ ?_ ?_⟩
  · rintro i Hx hi rfl
    exact Evl.ex_l (Evl.Ex.new hc) hS
  · rintro i x Hx ex rfl
    rw [List.getElem?_map] at ex
    cases ez : ns[i]? with
    | none => rw [ez] at ex; cases ex
    | some z =>
      rw [ez] at ex
      cases ex
      refine ⟨rfl, ?_⟩
      unfold tYes
      dsimp only
      rw [if_pos rfl]
      refine ⟨_, rfl, z, rfl, _, upd_same, ?_, ?_⟩
      · have h1 : ((List.map V.int (List.map absI (List.take i ns))).length) ≤ 63 := by simp; omega
        exact Evl.sz_lt (by omega)
      · rw [upd_upd, List.take_add_one, ez]
        simp [absI]
  · rintro Hx rfl
    rw [List.length_map, List.take_length]
    generalize hcs : ns.map absI = cs
    have hz : cs.length ≤ 63 := by rw [← hcs, List.length_map]; exact hl
    have hp : ∀ x ∈ cs, 0 ≤ x := fun x hx => by
      rw [← hcs] at hx
      obtain ⟨z, _, rfl⟩ := List.mem_map.mp hx
      unfold absI
      split <;> omega
    have hbz : ∀ ys : List Int, (bigI ys).length ≤ ys.length := fun ys => by
      unfold bigI
      rw [List.length_map]
      exact List.length_filter_le _ _
    refine ⟨.ref c, rfl, c, rfl, ⟨_, SqL.of upd_same⟩, fun l hl' => lc_list (xs := cs.map V.int) (fun i Hx => Hx = upd (upd H c (.lst (cs.map V.int))) l (.lst ((bigI (cs.take i)).map V.int))) (by simp [bigI]) ?_ ?_ ?_⟩
    · rintro i Hx hi rfl
      exact Evl.ex_l (Evl.Ex.new hl') (SqL.of upd_same)
    · rintro i x Hx ex rfl
      rw [List.getElem?_map] at ex
      cases ez : cs[i]? with
      | none => rw [ez] at ex; cases ex
      | some z =>
        rw [ez] at ex
        cases ex
        have et : cs.take (i + 1) = cs.take i ++ [z] := by
          rw [List.take_add_one, ez]
          rfl
        refine ⟨rfl, ?_⟩
        refine ⟨_, rfl, 10, 18, rfl, rfl, ⟨by decide, by decide, by decide⟩, z, _, rfl, rfl, _, rfl, ?_⟩
        rw [et, bigI_snoc]
        have e18 : ((10 : Int) ^ Int.toNat 18) = 10 ^ 18 := rfl
        rw [e18]
        dsimp only
        by_cases h : (10 : Int) ^ 18 ≤ z
        · rw [if_pos (decide_eq_true h), if_pos h]
          refine ⟨_, rfl, 10, 18, rfl, rfl, ⟨by decide, by decide, by decide⟩, z, _, rfl, rfl, _, upd_same, ?_, ?_⟩
          · have h1 := hbz (cs.take i)
            have h2 : (cs.take i).length ≤ cs.length := by rw [List.length_take]; omega
            exact Evl.sz_lt (by rw [List.length_map]; omega)
          · rw [upd_upd, e18]
            simp
        · rw [if_neg (by simpa using h), if_neg h]
    · rintro Hx rfl
      rw [List.length_map, List.take_length]
      have hlc : c ≠ l := fun z => by rw [z, upd_same] at hl'; cases hl'
      have hl0 : H l = none := by rw [upd_ne hlc.symm] at hl'; exact hl'
      intro d hd
      have hdl : l ≠ d := fun z => by rw [z, upd_same] at hd; cases hd
      have hd1 : upd H c (.lst (cs.map V.int)) d = none := by rw [upd_ne hdl.symm] at hd; exact hd
      have hdc : c ≠ d := fun z => by rw [z, upd_same] at hd1; cases hd1
      have hd0 : H d = none := by rw [upd_ne hdc.symm] at hd1; exact hd1
      have em : mergeK [] (stBegun l c) = stBegun l c := by rfl
      have hb : ∀ x ∈ bigI cs, 0 ≤ x := fun x hx => by
        unfold bigI at hx
        obtain ⟨y, hy, rfl⟩ := List.mem_map.mp hx
        have h1 := (List.mem_filter.mp hy).2
        simp only [decide_eq_true_eq] at h1
        omega
      refine ⟨.ref l, rfl, .ref c, rfl, upd_same, stBegun l c, rfl, by simp [stBegun], ?_⟩
      rw [em, upd_upd]
      exact q c l d cs (bigI cs) _ hc hl0 hd0 hlc hdc hdl (by rw [upd_ne hdc, upd_ne hlc, upd_same]) (by rw [upd_ne hdl, upd_same]) upd_same (fun b h1 h2 h3 => by rw [upd_ne h3, upd_ne h2, upd_ne h1]) hp hb hz (Nat.le_trans (hbz cs) hz)

theorem sc_is_rising : FnScope ["things", "lesser", "greater"] ["things"] (defScope s_is_rising) := ⟨rfl, rfl, rfl, by decide +kernel, rfl, by decide +kernel, by decide +kernel⟩
theorem ok_is_rising (T : Txt K mg cs tk0) (D : DefAt K mg "is_rising" s_is_rising ["things"]) : Has P w K mg base CX0 1 "is_rising" ["things"] (sp0 K TT ds_is_rising) := by
  obtain ⟨f, fd, F, hm, hk, hb⟩ := D
  refine ⟨f, fd, F.okD sc_is_rising (len_is_rising) (fun S cdv A outer s H E hr => ?_), hm, hk, hb⟩
  refine ⟨_, _, (pss_one (ps_ret (pe_callB (cr_all rfl) (by rfl) T.n_all (by decide +kernel) (pa_cons (pe_lc (own := [("lesser", 1), ("greater", 2)]) (g := gTup _ 2 (gCons (gName 1) (gCons (gName 2) gNil))) rfl sc_is_rising.nd (RZ.pi_zipA (by rfl) T.n_zip (pa_cons (pv 0) (pa_cons (pe_slice sl_U (pv 0) (po_some pe_int) po_none) pa_nil))) (blkOk_by (N := ["things", "lesser", "greater"]) (own := [("lesser", 1), ("greater", 2)]) (sc := defScope s_is_rising) (by decide +kernel)) (fun _ _ _ _ _ => (pg_tup rfl (pgs_cons (pg_name (i := 1) sc_is_rising.nd rfl (by first | exact Or.inl rfl | exact Or.inr rfl)) (pgs_cons (pg_name (i := 2) sc_is_rising.nd rfl (by first | exact Or.inl rfl | exact Or.inr rfl)) pgs_nil)))) (fun _ _ _ _ _ => pts_nil) (fun _ _ _ _ _ => (pe_cmpR (SCo.op_ltU hr.units0) (pv 1) (pv 2) (nomark _)))) pa_nil)))),
    (rds_ret (rd_cb cal_all (rda_cons (rd_lc (rdj_of (rdi_zip (rda_cons (rd_var (i := 0)) (rda_cons (rd_sl (rd_var (i := 0)) (rdo_some rd_int) rdo_none) rda_nil)))) (rdg_two (vs := [1, 2]) (by decide) (by decide)) rdt_yes (rd_op o2_ltU (rd_var (i := 1)) (rd_var (i := 2)))) rda_nil))), ?_⟩
  rintro ss n P (⟨ns, rfl, hl, p⟩ | ⟨nss, rfl, hl, p⟩)
  · walk_at "dl"
    rw [cut_from_one, rising_zip]
    refine ⟨by simp; omega, compM_map (f := fun d => match d with | .tup [.int a, .int b] => .bl (decide (a < b)) | _ => .non) (fun x hx n2 k q => ?_) ?_⟩
    · obtain ⟨⟨a, b⟩, _, rfl⟩ := List.mem_map.mp hx
      exact q
    · rw [List.map_map]
      refine ⟨(ns.zip (ns.drop 1)).map fun p => decide (p.1 < p.2), blsD_map, ?_⟩
      rw [all_map, risB_zip]
      exact p
  · walk_at "dl"
    rw [cut_from_one, ← List.map_drop, zipT_map]
    refine ⟨by simp; omega, compM_map (f := ltF) (fun x hx n2 k q => ?_) ?_⟩
    · obtain ⟨⟨a, b⟩, _, rfl⟩ := List.mem_map.mp hx
      refine ⟨a, rfl, b, rfl, ?_⟩
      have q' : k (some (.bl (SCo.ltI (intsOf (a.map D.int)) (intsOf (b.map D.int))))) n2 := q
      rw [intsOf_map, intsOf_map] at q'
      exact q'
    · rw [List.map_map]
      refine ⟨(nss.zip (nss.drop 1)).map fun p => SCo.ltI p.1 p.2, ?_, ?_⟩
      · rw [← blsD_map (f := fun p : List Int × List Int => SCo.ltI p.1 p.2)]
        refine congrArg _ (List.map_congr_left fun p _ => ?_)
        show D.bl (SCo.ltI (intsOf (p.1.map D.int)) (intsOf (p.2.map D.int))) = _
        rw [intsOf_map, intsOf_map]
      · rw [all_map]
        exact p


theorem sc_is_lot : FnScope ["thing", "low", "high", "number"] ["thing", "low", "high"] (defScope s_is_lot) := ⟨rfl, rfl, rfl, by decide +kernel, rfl, by decide +kernel, by decide +kernel⟩
theorem ok_is_lot (T : Txt K mg cs tk0) (D : DefAt K mg "is_lot" s_is_lot ["thing", "low", "high"]) (c_is_between : Has P w K mg base CX0 2 "is_between" ["thing", "low", "high"] (sp0 K TT ds_is_between)) (c_is_rising : Has P w K mg base CX0 1 "is_rising" ["things"] (sp0 K TT ds_is_rising)) : Has P w K mg base CX0 3 "is_lot" ["thing", "low", "high"] (sp0 K TT ds_is_lot) := by
  obtain ⟨f, fd, F, hm, hk, hb⟩ := D
  obtain ⟨_, _, c_is_between_ok, c_is_between_m, c_is_between_k, c_is_between_b⟩ := c_is_between
  obtain ⟨_, _, c_is_rising_ok, c_is_rising_m, c_is_rising_k, c_is_rising_b⟩ := c_is_rising
  refine ⟨f, fd, F.okD sc_is_lot (len_is_lot) (fun S cdv A outer s H E hr => ?_), hm, hk, hb⟩
  refine ⟨_, _, (pss_cons (ps_if (PW.pt (pw_or (pt_not (pt_val (pe_callB call_isD (by rfl) T.n_isinstance (by decide +kernel) (pa_cons (pv 0) (pa_cons (pe_bltn rfl T.n_tuple (by decide +kernel) (v := .ty "tuple") rfl) pa_nil))))) (pw_or1 (pt_cmpR (op_eqU hr.units) (pe_callB call_lenU (by rfl) T.n_len (by decide +kernel) (pa_cons (pv 0) pa_nil)) pe_int (nomark _))))) (pss_one (ps_ret pe_bl)) pss_nil)
      (pss_one (ps_ret (pe_and (pe_callB (cr_all rfl) (by rfl) T.n_all (by decide +kernel) (pa_cons (pe_lc (own := [("number", 3)]) (g := gName 3) rfl sc_is_lot.nd (pi_tup (pv 0)) (blkOk_by (N := ["thing", "low", "high", "number"]) (own := [("number", 3)]) (sc := defScope s_is_lot) (by decide +kernel)) (fun _ _ _ _ _ => (pg_name (i := 3) sc_is_lot.nd rfl (by first | exact Or.inl rfl | exact Or.inr rfl))) (fun _ _ _ _ _ => pts_nil) (fun _ _ _ _ _ => (pe_call c_is_between_ok (hr.mono (by decide)) rfl c_is_between_m c_is_between_k c_is_between_b .nil pass0 (pa_cons (pv 3) (pa_cons (pv 1) (pa_cons (pv 2) pa_nil)))))) pa_nil)) (pe_one (pe_call c_is_rising_ok (hr.mono (by decide)) rfl c_is_rising_m c_is_rising_k c_is_rising_b .nil pass0 (pa_cons (pv 0) pa_nil))))))),
    (rds_seq (rds_if (rdt_or (rdt_not (rdt_B (rd_isT (by decide) (rd_var (i := 0))))) (rdt_test (rd_op o2_eq (rd_cb cal_len (rda_cons (rd_var (i := 0)) rda_nil)) rd_int))) (rds_ret rd_bl) rds_next)
      (rds_ret (rd_andV (rd_cb cal_all (rda_cons (rd_lc (rdj_of (rdi_tup (rd_var (i := 0)))) (rdg_name (vs := [3]) (by decide)) rdt_yes (rd_call0 (E := E0) (rda_cons (rd_var (i := 3)) (rda_cons (rd_var (i := 1)) (rda_cons (rd_var (i := 2)) rda_nil))))) rda_nil)) (rd_call0 (E := E0) (rda_cons (rd_var (i := 0)) rda_nil))))), ?_⟩
  rintro ss n P ⟨d, lo, hi, rfl, hx, hs, p⟩
  walk_at "dl"
  refine ⟨bare_of hx, ?_⟩
  cases d with
  | tup xs =>
    walk_at "dl"
    have hl : xs.length ≤ 100 := by simpa [shortD] using hs
    have hx' : nxs xs = true := hx
    rw [len0]
    simp only [lotB2] at p
    cases e0 : xs.isEmpty with
    | true =>
      rw [e0] at p
      exact p
    | false =>
      rw [e0] at p
      refine ⟨by omega, compM_map (f := fun x => .bl (betw lo hi x)) (fun y hy n' k q => ⟨y, lo, hi, rfl, bare_of (nxs_mem hx' hy), q⟩) (allD_map ?_)⟩
      cases e : xs.all (betw lo hi) with
      | false =>
        rw [e] at p
        exact p
      | true =>
        rw [e] at p
        exact .inl ⟨intsOf xs, by rw [← ints_eq e], by rw [intsOf_len]; omega, p⟩
  | _ => exact p


theorem sc_law_mixed : FnScope ["state", "several", "left", "found"] ["state", "several"] (defScope s_law_mixed) := ⟨rfl, rfl, rfl, by decide +kernel, rfl, by decide +kernel, by decide +kernel⟩
theorem ok_law_mixed (T : Txt K mg cs tk0) (D : DefAt K mg "_law_mixed" s_law_mixed ["state", "several"]) (c_law_draw : Has P w K mg base CX0 1 "_law_draw" ["state", "size_here"] (sp0 K TT ds_law_draw)) : Has P w K mg base CX0 2 "_law_mixed" ["state", "several"] (sp0 K TT ds_law_mixed) := by
  obtain ⟨f, fd, F, hm, hk, hb⟩ := D
  obtain ⟨_, _, c_law_draw_ok, c_law_draw_m, c_law_draw_k, c_law_draw_b⟩ := c_law_draw
  refine ⟨f, fd, F.okD sc_law_mixed (len_law_mixed) (fun S cdv A outer s H E hr => ?_), hm, hk, hb⟩
  refine ⟨_, _, (pss_cons (ps_par (i := 2) (j := 3) rfl sc_law_mixed.nd rfl rfl (by decide) rfl rfl (pa_cons (pe_callTy call_rListU (by rfl) T.n_list (by decide +kernel) (pa_cons (pv 1) pa_nil)) (pa_cons (pe_lst pa_nil) pa_nil)) (by rfl))
      (pss_cons (ps_while PassesOwn.never (pt_cmpR (op_neNil hr.units) (pv 2) (pe_lst pa_nil) (nomark _)) (pss_one (ps_expr (pe_bm PySem.F.plainAttrs_list PySem.F.slot_list_append PySem.F.type_list_append mt_append (pv 3) (pa_cons (pe_bm PySem.F.plainAttrs_list PySem.F.slot_list_pop PySem.F.type_list_pop mt_popAt (pv 2) (pa_cons (pe_call c_law_draw_ok (hr.mono (by decide)) rfl c_law_draw_m c_law_draw_k c_law_draw_b .nil pass0 (pa_cons (pv 0) (pa_cons (pe_callB call_lenU (by rfl) T.n_len (by decide +kernel) (pa_cons (pv 2) pa_nil)) pa_nil))) pa_nil)) pa_nil)))))
      (pss_one (ps_ret (pv 3))))),
    (rds_seq (rds_parM (i := 2) (j := 3) (rdm_n (rdn_list (rd_var (i := 1)))) (rdm_n rdn_nil))
      (rds_seq (rds_while (rdt_view (i := 2) (rdt_test (rd_op o2_neNil (rd_var (i := 2)) (rd_lst rda_nil)))) (rds_appPop (i := 3) (j := 2) (rd_call0 (E := E0) (rda_st (i := 0) (rda_cons (rd_lenO (i := 2)) rda_nil)))))
      (rds_retO (i := 3)))), ?_⟩
  rintro ss n P ⟨xs, rfl | rfl, hl, hn, p⟩
  · walk_at "dl"
    have hn' : n + 200 < 1099511627776 := hn
    refine ⟨fun m ρ n' => ∃ ys zs, ρ = [.st, .d (.lst xs), .ol ys, .ol zs] ∧ ys.length = m ∧ (zs ++ ys).Perm xs ∧ n' ≤ n + zs.length, ⟨_, xs, [], rfl, rfl, by simp, by simp⟩, ?_⟩
    rintro m ρ n' ⟨ys, zs, rfl, hm, hp, hn2⟩
    have hlen := hp.length_eq
    rw [List.length_append] at hlen
    walk_at "dl"
    cases e : ys.isEmpty with
    | true =>
      have : ys = [] := by simpa using e
      subst this
      rw [List.append_nil] at hp
      have := hp.length_eq
      exact p zs n' hp (by omega)
    | false =>
      have hpos : 0 < ys.length := by
        cases ys with
        | nil => cases e
        | cons a b => simp
      refine ⟨by decide, _, rfl, by omega, by omega, lim (by omega), fun r n1 r0 r1 h => ?_⟩
      obtain ⟨j, rfl⟩ := Int.eq_ofNat_of_zero_le r0
      have hj : j < ys.length := by omega
      have e2 : ys[j]? = some ys[j] := List.getElem?_eq_getElem hj
      refine ⟨j, rfl, by omega, ys[j], e2, by omega, m - 1, by omega, _, _, rfl, ?_, ?_, ?_⟩
      · rw [List.length_eraseIdx]
        simp [hj]
        omega
      · have z := L2.erase_perm ys j ys[j] e2
        rw [List.append_assoc]
        exact (List.Perm.append_left zs z).trans hp
      · simp
        omega
  · walk_at "dl"
    have hn' : n + 200 < 1099511627776 := hn
    refine ⟨fun m ρ n' => ∃ ys zs, ρ = [.st, .d (.tup xs), .ol ys, .ol zs] ∧ ys.length = m ∧ (zs ++ ys).Perm xs ∧ n' ≤ n + zs.length, ⟨_, xs, [], rfl, rfl, by simp, by simp⟩, ?_⟩
    rintro m ρ n' ⟨ys, zs, rfl, hm, hp, hn2⟩
    have hlen := hp.length_eq
    rw [List.length_append] at hlen
    walk_at "dl"
    cases e : ys.isEmpty with
    | true =>
      have : ys = [] := by simpa using e
      subst this
      rw [List.append_nil] at hp
      have := hp.length_eq
      exact p zs n' hp (by omega)
    | false =>
      have hpos : 0 < ys.length := by
        cases ys with
        | nil => cases e
        | cons a b => simp
      refine ⟨by decide, _, rfl, by omega, by omega, lim (by omega), fun r n1 r0 r1 h => ?_⟩
      obtain ⟨j, rfl⟩ := Int.eq_ofNat_of_zero_le r0
      have hj : j < ys.length := by omega
      have e2 : ys[j]? = some ys[j] := List.getElem?_eq_getElem hj
      refine ⟨j, rfl, by omega, ys[j], e2, by omega, m - 1, by omega, _, _, rfl, ?_, ?_, ?_⟩
      · rw [List.length_eraseIdx]
        simp [hj]
        omega
      · have z := L2.erase_perm ys j ys[j] e2
        rw [List.append_assoc]
        exact (List.Perm.append_left zs z).trans hp
      · simp
        omega


theorem sc_check_matter : FnScope ["table", "matter"] ["table", "matter"] (defScope s_check_matter) := ⟨rfl, rfl, rfl, by decide +kernel, rfl, by decide +kernel, by decide +kernel⟩
theorem ok_check_matter (T : Txt K mg cs tk0) (D : DefAt K mg "check_matter" s_check_matter ["table", "matter"]) (c_is_between : Has P w K mg base CX0 2 "is_between" ["thing", "low", "high"] (sp0 K TT ds_is_between)) : Has P w K mg base (L2.CX P w) 3 "check_matter" ["table", "matter"] (spX K TT (ds_check_matter cs)) := by
  obtain ⟨f, fd, F, hm, hk, hb⟩ := D
  obtain ⟨_, _, c_is_between_ok, c_is_between_m, c_is_between_k, c_is_between_b⟩ := c_is_between
  refine ⟨f, fd, F.okXD sc_check_matter (len_check_matter cs) (fun S cdv A outer s H E hr => ?_), hm, hk, hb⟩
  have tk := takes_of (X := cxOf (L2.CX P w) P w K mg base ["table", "matter"] "check_matter" (defScope s_check_matter) f cdv A outer s H E) (E := E) rfl rfl rfl rfl
  refine ⟨_, _, (pss_one (ps_if (pt_not (pt_val (pe_call c_is_between_ok (hr.mono (by decide)) rfl c_is_between_m c_is_between_k c_is_between_b .nil pass0 (pa_cons (pv 1) (pa_cons pe_int (pa_cons (pe_op op_sub (pe_callB call_lenU (by rfl) T.n_len (by decide +kernel) (pa_cons (pe_fld (pv 0) rfl) pa_nil)) pe_int) pa_nil)))))) (pss_one (ps_raise (W := fun cls d _ H => E cls d H) rfl tk (pmk_own PySem.F.excBase_ValueError T.x_BadMatter T.g_BadMatter T.e_BadMatter (raises_own T.b_BadMatter T.t_BadMatter) rfl))) pss_nil)),
    (rds_if (rdt_not (rdt_B (rd_call0 (E := E0) (rda_cons (rd_var (i := 1)) (rda_cons rd_int (rda_cons (rd_op o2_sub (rd_cb cal_len (rda_cons (rd_fld (rd_var (i := 0))) rda_nil)) rd_int) rda_nil)))))) rds_raise rds_next), ?_⟩
  rintro ss n P XP ⟨ks, rs, v, rfl, hv, h1, h2⟩
  walk_at "dl"
  refine ⟨T.na_Table_kinds, _, fld_k, v, 0, _, rfl, bare_of hv, ?_⟩
  cases e : betw 0 ((ks.length : Int) - 1) v with
  | true => exact h1 e
  | false => exact h2 e

theorem sc_is_full : FnScope ["table", "row"] ["table"] (defScope s_is_full) := ⟨rfl, rfl, rfl, by decide +kernel, rfl, by decide +kernel, by decide +kernel⟩
theorem ok_is_full (T : Txt K mg cs tk0) (D : DefAt K mg "is_full" s_is_full ["table"]) (c_check_table : Has P w K mg base (L2.CX P w) 1 "check_table" ["table"] (spX K TT (ds_check_table cs))) : Has P w K mg base (L2.CX P w) 2 "is_full" ["table"] (spX K TT (ds_is_full cs)) := by
  obtain ⟨f, fd, F, hm, hk, hb⟩ := D
  obtain ⟨_, _, c_check_table_ok, c_check_table_m, c_check_table_k, c_check_table_b⟩ := c_check_table
  refine ⟨f, fd, F.okXD sc_is_full (len_is_full cs) (fun S cdv A outer s H E hr => ?_), hm, hk, hb⟩
  have tk := takes_of (X := cxOf (L2.CX P w) P w K mg base ["table", "row"] "is_full" (defScope s_is_full) f cdv A outer s H E) (E := E) rfl rfl rfl rfl
  refine ⟨_, _, (pss_cons (ps_expr (pe_call c_check_table_ok (hr.mono (by decide)) rfl c_check_table_m c_check_table_k c_check_table_b .nil (passes_call tk (fun _ _ _ _ h => h)) (pa_cons (pv 0) pa_nil)))
      (pss_one (ps_ret (pe_callB (cr_all rfl) (by rfl) T.n_all (by decide +kernel) (pa_cons (pe_lc (own := [("row", 1)]) (g := gName 1) rfl sc_is_full.nd (pi_tup (pe_fld (pv 0) rfl)) (blkOk_by (N := ["table", "row"]) (own := [("row", 1)]) (sc := defScope s_is_full) (by decide +kernel)) (fun _ _ _ _ _ => (pg_name (i := 1) sc_is_full.nd rfl (by first | exact Or.inl rfl | exact Or.inr rfl))) (fun _ _ _ _ _ => pts_nil) (fun _ _ _ _ _ => (pe_cmpR (SCo.op_notInT hr) pe_non (pv 1) (by with_unfolding_all rfl)))) pa_nil))))),
    (rds_seq (rds_drop (rd_callX (rda_cons (rd_var (i := 0)) rda_nil)))
      (rds_ret (rd_cb cal_all (rda_cons (rd_lc (rdj_of (rdi_tup (rd_fld (rd_var (i := 0))))) (rdg_name (vs := [1]) (by decide)) rdt_yes (rd_op o2_inT rd_non (rd_var (i := 1)))) rda_nil)))), ?_⟩
  rintro ss n P XP ⟨d, rfl, h⟩
  walk_at "dl"
  rcases h with ⟨xd, ni, p⟩ | ⟨ks, rss, t, rfl, p⟩ | ⟨ks, rs, t, rfl, p⟩
  · exact ⟨_, rfl, .inr ⟨xd, ni, p⟩⟩
  · refine ⟨_, rfl, .inl ⟨_, _, rfl, ?_⟩⟩
    walk_at "dl"
    have hl := t.rl
    refine ⟨T.na_Table_rows, _, fld_r, by rw [List.length_map]; omega, compM_map (f := fun _ => .bl true) (fun x hx n2 k q => ?_) ?_⟩
    · obtain ⟨r, _, rfl⟩ := List.mem_map.mp hx
      refine ⟨.none, rfl, r.map .int, toP_tup r, rfl, shaped_tup r, ?_⟩
      have e : ((r.map PySem.PyData.int).any fun z => z.eqv .none) = false := by
        rw [Bool.eq_false_iff]
        intro h
        obtain ⟨d, hd, h2⟩ := List.any_eq_true.mp h
        obtain ⟨i, _, rfl⟩ := List.mem_map.mp hd
        simp [PySem.PyData.eqv] at h2
      rw [e]
      exact q
    · refine allD_map (f := fun _ => true) ?_
      have e : ((rss.map tupI).all fun _ => true) = true := by simp
      rw [e]
      exact p
  · refine ⟨_, rfl, .inl ⟨_, _, rfl, ?_⟩⟩
    walk_at "dl"
    have hl := t.rl
    refine ⟨T.na_Table_rows, _, fld_r, by rw [List.length_map]; omega, compM_map (f := fun x => .bl (!nonIn x)) (fun x hx n2 k q => ?_) ?_⟩
    · obtain ⟨r, hr, rfl⟩ := List.mem_map.mp hx
      obtain ⟨e1, e2, e3⟩ := rowN_toP (t.rn r hr)
      refine ⟨.none, rfl, r.map cellQ, e1, rfl, e2, ?_⟩
      rw [e3]
      exact q
    · refine allD_map (f := fun x => !nonIn x) ?_
      have e : ((rs.map D.tup).all fun x => !nonIn x) = false := by
        obtain ⟨r, hr, hn⟩ := t.non
        refine Bool.eq_false_iff.mpr fun z => ?_
        have y := List.all_eq_true.mp z (.tup r) (List.mem_map_of_mem hr)
        have w : nonIn (.tup r) = true := List.any_eq_true.mpr ⟨.non, hn, rfl⟩
        rw [w] at y
        cases y
      rw [e]
      exact p

theorem sc_check_full : FnScope ["table"] ["table"] (defScope s_check_full) := ⟨rfl, rfl, rfl, by decide +kernel, rfl, by decide +kernel, by decide +kernel⟩
theorem ok_check_full (T : Txt K mg cs tk0) (D : DefAt K mg "check_full" s_check_full ["table"]) (c_is_full : Has P w K mg base (L2.CX P w) 2 "is_full" ["table"] (spX K TT (ds_is_full cs))) : Has P w K mg base (L2.CX P w) 3 "check_full" ["table"] (spX K TT (ds_check_full cs)) := by
  obtain ⟨f, fd, F, hm, hk, hb⟩ := D
  obtain ⟨_, _, c_is_full_ok, c_is_full_m, c_is_full_k, c_is_full_b⟩ := c_is_full
  refine ⟨f, fd, F.okXD sc_check_full (len_check_full cs) (fun S cdv A outer s H E hr => ?_), hm, hk, hb⟩
  have tk := takes_of (X := cxOf (L2.CX P w) P w K mg base ["table"] "check_full" (defScope s_check_full) f cdv A outer s H E) (E := E) rfl rfl rfl rfl
  refine ⟨_, _, (pss_one (ps_if (pt_not (pt_val (pe_call c_is_full_ok (hr.mono (by decide)) rfl c_is_full_m c_is_full_k c_is_full_b .nil (passes_call tk (fun _ _ _ _ h => h)) (pa_cons (pv 0) pa_nil)))) (pss_one (ps_raise (W := fun cls d _ H => E cls d H) rfl tk (pmk_own PySem.F.excBase_ValueError T.x_Unread T.g_Unread T.e_Unread (raises_own T.b_Unread T.t_Unread) rfl))) pss_nil)),
    (rds_if (rdt_not (rdt_B (rd_callX (rda_cons (rd_var (i := 0)) rda_nil)))) rds_raise rds_next), ?_⟩
  rintro ss n P XP ⟨d, rfl, h⟩
  walk_at "dl"
  rcases h with ⟨xd, ni, p⟩ | ⟨ks, rss, t, rfl, p⟩ | ⟨ks, rs, t, rfl, p⟩
  · exact ⟨_, rfl, .inl ⟨xd, ni, p⟩⟩
  · exact ⟨_, rfl, .inr (.inl ⟨ks, rss, t, rfl, p⟩)⟩
  · exact ⟨_, rfl, .inr (.inr ⟨ks, rs, t, rfl, p⟩)⟩

theorem sc_used : FnScope ["table", "matter", "row"] ["table", "matter"] (defScope s_used) := ⟨rfl, rfl, rfl, by decide +kernel, rfl, by decide +kernel, by decide +kernel⟩
theorem ok_used (T : Txt K mg cs tk0) (D : DefAt K mg "used" s_used ["table", "matter"]) (c_check_table : Has P w K mg base (L2.CX P w) 1 "check_table" ["table"] (spX K TT (ds_check_table cs))) (c_check_matter : Has P w K mg base (L2.CX P w) 3 "check_matter" ["table", "matter"] (spX K TT (ds_check_matter cs))) : Has P w K mg base (L2.CX P w) 4 "used" ["table", "matter"] (spX K TT (ds_used cs)) := by
  obtain ⟨f, fd, F, hm, hk, hb⟩ := D
  obtain ⟨_, _, c_check_table_ok, c_check_table_m, c_check_table_k, c_check_table_b⟩ := c_check_table
  obtain ⟨_, _, c_check_matter_ok, c_check_matter_m, c_check_matter_k, c_check_matter_b⟩ := c_check_matter
  refine ⟨f, fd, F.okXD sc_used (len_used cs) (fun S cdv A outer s H E hr => ?_), hm, hk, hb⟩
  have tk := takes_of (X := cxOf (L2.CX P w) P w K mg base ["table", "matter", "row"] "used" (defScope s_used) f cdv A outer s H E) (E := E) rfl rfl rfl rfl
  refine ⟨_, _, (pss_cons (ps_expr (pe_call c_check_table_ok (hr.mono (by decide)) rfl c_check_table_m c_check_table_k c_check_table_b .nil (passes_call tk (fun _ _ _ _ h => h)) (pa_cons (pv 0) pa_nil)))
      (pss_cons (ps_expr (pe_call c_check_matter_ok (hr.mono (by decide)) rfl c_check_matter_m c_check_matter_k c_check_matter_b .nil (passes_call tk (fun _ _ _ _ h => h)) (pa_cons (pv 0) (pa_cons (pv 1) pa_nil))))
      (pss_one (ps_ret (pe_callTy call_tupU (by rfl) T.n_tuple (by decide +kernel) (pa_cons (pe_callB (cr_sortedSet rfl) (by rfl) T.n_sorted (by decide +kernel) (pa_cons (SCo.pe_sc (SCo.intKd _ _) (own := [("row", 2)]) (g := gName 2) rfl sc_used.nd (pi_tup (pe_fld (pv 0) rfl)) (blkOk_by (N := ["table", "matter", "row"]) (own := [("row", 2)]) (sc := defScope s_used) (by decide +kernel)) (fun _ _ _ _ _ => (pg_name (i := 2) sc_used.nd rfl (by first | exact Or.inl rfl | exact Or.inr rfl))) (fun _ _ _ _ _ => (pts_one (pt_cmpR op_notN (pe_ix ix_seq (pv 2) (pv 1) (fun _ _ => rfl)) pe_non (nomark _)))) (fun _ _ _ _ _ => (pe_ix ix_seq (pv 2) (pv 1) (fun _ _ => rfl)))) pa_nil)) pa_nil)))))),
    (rds_seq (rds_drop (rd_callX (rda_cons (rd_var (i := 0)) rda_nil)))
      (rds_seq (rds_drop (rd_callX (rda_cons (rd_var (i := 0)) (rda_cons (rd_var (i := 1)) rda_nil))))
      (rds_ret (rd_cb cal_tuple (rda_cons (rd_sortSc rfl (rdj_of (rdi_tup (rd_fld (rd_var (i := 0))))) (rdg_name (vs := [2]) (by decide)) (rdt_test (rd_op o2_notN (rd_op o2_ix (rd_var (i := 2)) (rd_var (i := 1))) rd_non)) (rd_op o2_ix (rd_var (i := 2)) (rd_var (i := 1)))) rda_nil))))), ?_⟩
  rintro ss n P XP ⟨d, v, rfl, xv, h⟩
  walk_at "dl"
  rcases h with ⟨xd, ni, p⟩ | ⟨ks, rss, rfl, t, h⟩
  · exact ⟨_, rfl, .inr ⟨xd, ni, p⟩⟩
  refine ⟨_, rfl, .inl ⟨_, _, rfl, ?_⟩⟩
  walk_at "dl"
  have hl := t.rl
  rcases h with ⟨hb, p⟩ | ⟨m, rfl, hm, p⟩
  · exact ⟨_, _, _, rfl, xv, (fun z => by rw [List.length_map, hb] at z; cases z), fun _ => p⟩
  have hb : betw 0 (((ks.map D.int).length : Int) - 1) (.int (m : Int)) = true := by
    rw [List.length_map]
    simp only [betw, Bool.and_eq_true, decide_eq_true_eq]
    omega
  refine ⟨_, _, _, rfl, rfl, fun _ => ?_, fun h => by rw [hb] at h; cases h⟩
  walk_at "dl"
  refine ⟨T.na_Table_rows, _, fld_r, by rw [List.length_map]; omega, compM_map (f := fun x => atN x m) (fun x hx n2 k q => ?_) ?_⟩
  · obtain ⟨r, hr2, rfl⟩ := List.mem_map.mp hx
    have e := getD_at (r := r) (m := m) (by rw [(t.rf r hr2).len]; exact hm)
    refine ⟨_, at_nat e, _, at_nat e, _, rfl, ?_⟩
    have e2 : atN (tupI r) m = .int (r.getD m 0) := by
      show (r.map D.int).getD m .non = _
      rw [List.getD_eq_getElem?_getD, e]
      rfl
    rw [← e2]
    exact q
  · refine ⟨rss.map (fun r => r.getD m 0), ?_, fun us h1 h2 => ?_⟩
    · rw [List.map_map, List.map_map]
      refine List.map_congr_left fun r hr2 => ?_
      show (r.map D.int).getD m .non = D.int (r.getD m 0)
      rw [List.getD_eq_getElem?_getD, getD_at (by rw [(t.rf r hr2).len]; exact hm)]
      rfl
    · rw [usedL_is t hm h1 fun c => by rw [h2, List.mem_map]]
      exact p

theorem sc_do_cross : FnScope ["one", "other", "shared", "valley"] ["one", "other"] (defScope s_do_cross) := ⟨rfl, rfl, rfl, by decide +kernel, rfl, by decide +kernel, by decide +kernel⟩
theorem ok_do_cross (T : Txt K mg cs tk0) (D : DefAt K mg "do_cross" s_do_cross ["one", "other"]) : Has P w K mg base CX0 1 "do_cross" ["one", "other"] (sp0 K TT ds_do_cross) := by
  obtain ⟨f, fd, F, hm, hk, hb⟩ := D
  refine ⟨f, fd, F.okD sc_do_cross (len_do_cross) (fun S cdv A outer s H E hr => ?_), hm, hk, hb⟩
  refine ⟨_, _, (pss_cons (ps_setLc (i := 2) (own := [("valley", 3)]) (g := gName 3) rfl sc_do_cross.nd rfl rfl (sw_true rfl rfl rfl (by decide +kernel)) (pi_tup (pv 0)) (blkOk_by (N := ["one", "other", "shared", "valley"]) (own := [("valley", 3)]) (sc := defScope s_do_cross) (by decide +kernel)) (fun _ _ _ _ _ => (pg_name (i := 3) sc_do_cross.nd rfl (by first | exact Or.inl rfl | exact Or.inr rfl))) (fun _ _ _ _ _ => (pts_one (pt_cmpR op_in_seq (pv 3) (pv 1) (by with_unfolding_all rfl)))) (fun _ _ _ _ _ => (pv 3)))
      (pss_one (ps_ret (pe_chain op_lt op_lt pe_int (pe_callB call_lenU (by rfl) T.n_len (by decide +kernel) (pa_cons (pv 2) pa_nil)) (pe_callB (call_rMin2 rfl) (by rfl) T.n_min (by decide +kernel) (pa_cons (pe_callB call_lenU (by rfl) T.n_len (by decide +kernel) (pa_cons (pv 0) pa_nil)) (pa_cons (pe_callB call_lenU (by rfl) T.n_len (by decide +kernel) (pa_cons (pv 1) pa_nil)) pa_nil))))))),
    (rds_seq (rds_set (rd_lc (rdj_of (rdi_tup (rd_var (i := 0)))) (rdg_name (vs := [3]) (by decide)) (rdt_test (rd_op o2_in (rd_var (i := 3)) (rd_var (i := 1)))) (rd_var (i := 3))))
      (rds_ret (rd_chain o2_cmp o2_cmp rd_int (rd_cb cal_len (rda_cons (rd_var (i := 2)) rda_nil)) (rd_cb cal_min2 (rda_cons (rd_cb cal_len (rda_cons (rd_var (i := 0)) rda_nil)) (rda_cons (rd_cb cal_len (rda_cons (rd_var (i := 1)) rda_nil)) rda_nil)))))), ?_⟩
  rintro ss n P ⟨xs, ys, rfl, h1, h2, p⟩
  walk_at "dl"
  refine ⟨by rw [List.length_map]; omega, compM_filter (f := inF ys) (fun x hx n2 k q => ?_) ?_⟩
  · obtain ⟨v, _, rfl⟩ := List.mem_map.mp hx
    refine ⟨v, ys, rfl, rfl, ?_⟩
    cases e : ys.any (· == v) with
    | true => simp only [inF, e] at q; exact q
    | false => simp only [inF, e] at q; exact q
  · rw [inF_map, List.length_map]
    have z := p
    unfold crossB at z
    by_cases h0 : 0 < (sharedL xs ys).length
    · rw [show decide ((0 : Int) < ((sharedL xs ys).length : Int)) = true from decide_eq_true (by omega)]
      rw [decide_eq_true h0, Bool.true_and] at z
      have e : (if ((ys.map D.int).length : Int) < ((xs.map D.int).length : Int) then ((ys.map D.int).length : Int) else ((xs.map D.int).length : Int)) = ((min xs.length ys.length : Nat) : Int) := by
        rw [List.length_map, List.length_map]
        split <;> omega
      show P (.bl (decide (((sharedL xs ys).length : Int) < if ((ys.map D.int).length : Int) < ((xs.map D.int).length : Int) then ((ys.map D.int).length : Int) else ((xs.map D.int).length : Int)))) n
      rw [e]
      by_cases h3 : (sharedL xs ys).length < min xs.length ys.length
      · rw [decide_eq_true h3] at z
        rw [decide_eq_true (by omega)]
        exact z
      · rw [decide_eq_false h3] at z
        rw [decide_eq_false (by omega)]
        exact z
    · rw [show decide ((0 : Int) < ((sharedL xs ys).length : Int)) = false from decide_eq_false (by omega)]
      rw [decide_eq_false h0, Bool.false_and] at z
      exact z


theorem sc_law_pairs : FnScope ["several", "found", "spot", "one", "other"] ["several"] (defScope s_law_pairs) := ⟨rfl, rfl, rfl, by decide +kernel, rfl, by decide +kernel, by decide +kernel⟩
theorem ok_law_pairs (T : Txt K mg cs tk0) (D : DefAt K mg "_law_pairs" s_law_pairs ["several"]) : Has P w K mg base CX0 1 "_law_pairs" ["several"] (sp0 K TT ds_law_pairs) := by
  obtain ⟨f, fd, F, hm, hk, hb⟩ := D
  refine ⟨f, fd, F.okD sc_law_pairs (len_law_pairs) (fun S cdv A outer s H E hr => ?_), hm, hk, hb⟩
  refine ⟨_, _, (pss_cons (ps_set (i := 1) sc_law_pairs.nd rfl (by first | exact Or.inl rfl | exact Or.inr rfl) (pe_lst pa_nil))
      (pss_cons (ps_for PassesOwn.never rfl (RZ.pi_enumA (by rfl) T.n_enumerate (pa_cons (pv 0) pa_nil)) (pg_tup rfl (pgs_cons (pg_name (i := 2) sc_law_pairs.nd rfl (by first | exact Or.inl rfl | exact Or.inr rfl)) (pgs_cons (pg_name (i := 3) sc_law_pairs.nd rfl (by first | exact Or.inl rfl | exact Or.inr rfl)) pgs_nil))) (pss_one (ps_expr (pe_bm PySem.F.plainAttrs_list PySem.F.slot_list_extend PySem.F.type_list_extend mt_extend (pv 1) (pa_cons (pe_lc (own := [("other", 4)]) (g := gName 4) rfl sc_law_pairs.nd (RZ.pi_seq (pe_slice sl_U (pv 0) (po_some (pe_op op_addU (pv 2) pe_int)) po_none)) (blkOk_by (N := ["several", "found", "spot", "one", "other"]) (own := [("other", 4)]) (sc := defScope s_law_pairs) (by decide +kernel)) (fun _ _ _ _ _ => (pg_name (i := 4) sc_law_pairs.nd rfl (by first | exact Or.inl rfl | exact Or.inr rfl))) (fun _ _ _ _ _ => pts_nil) (fun _ _ _ _ _ => (pe_tup (pa_cons (pv 3) (pa_cons (pv 4) pa_nil))))) pa_nil)))))
      (pss_one (ps_ret (pv 1))))),
    (rds_seq (rds_setO rdn_nil)
      (rds_seq (rds_for (rdi_enum (rda_cons (rd_var (i := 0)) rda_nil)) (rdg_two (vs := [2, 3]) (by decide) (by decide)) (rds_extO (i := 1) (rdn_lc (rdj_of (rdi_seq (rd_sl (rd_var (i := 0)) (rdo_some (rd_op o2_add (rd_var (i := 2)) rd_int)) rdo_none))) (rdg_name (vs := [4]) (by decide)) rdt_yes (rd_tup (rda_cons (rd_var (i := 3)) (rda_cons (rd_var (i := 4)) rda_nil))))))
      (rds_retO (i := 1)))), ?_⟩
  rintro ss n P ⟨xs, rfl | rfl, hl, p⟩
  · show _
    walk_at "dl"
    refine ⟨fun i ρ n' => n' = n ∧ ∃ acc u v, ρ = [.d (.lst xs), .ol acc, u, v, .no] ∧ acc ++ pairsD (xs.drop i) = pairsD xs ∧ acc.length ≤ 50 * i, ⟨rfl, [], _, _, rfl, rfl, by simp⟩, ?_, ?_⟩
    · rintro i x ρ n' hx ⟨rfl, acc, u, v, rfl, e, hal⟩
      rw [enumD_get] at hx
      obtain ⟨d, hd, rfl⟩ := Option.map_eq_some_iff.mp hx
      obtain ⟨hi, e2⟩ := List.getElem?_eq_some_iff.mp hd
      rw [Nat.zero_add]
      show _
      walk_at "dl"
      refine ⟨⟨_, rfl⟩, ?_⟩
      show _ ∧ _
      rw [cut_from1]
      have h3 : (xs.drop (i + 1)).length ≤ 50 := by rw [List.length_drop]; omega
      refine ⟨by omega, compM_map (f := fun y => D.tup [d, y]) (fun y hy n2 k q => q) ?_⟩
      rw [List.length_map]
      refine ⟨by omega, rfl, _, _, _, rfl, ?_, ?_⟩
      · rw [← e, List.append_assoc]
        congr 1
        rw [List.drop_eq_getElem_cons hi, e2]
        unfold pairsD
        show _ = ((xs.drop (i + 1)).map (fun y => (d, y)) ++ pairsL (xs.drop (i + 1))).map tup2
        rw [List.map_append, List.map_map]
        rfl
      · rw [List.length_append, List.length_map]
        omega
    · rintro ρ n' ⟨rfl, acc, u, v, rfl, e, hal⟩
      walk_at "dl"
      rw [enumD_len, List.drop_length] at e
      have e2 : acc = pairsD xs := by rw [← e]; show acc = acc ++ []; rw [List.append_nil]
      rw [e2]
      exact p
  · show _
    walk_at "dl"
    refine ⟨fun i ρ n' => n' = n ∧ ∃ acc u v, ρ = [.d (.tup xs), .ol acc, u, v, .no] ∧ acc ++ pairsD (xs.drop i) = pairsD xs ∧ acc.length ≤ 50 * i, ⟨rfl, [], _, _, rfl, rfl, by simp⟩, ?_, ?_⟩
    · rintro i x ρ n' hx ⟨rfl, acc, u, v, rfl, e, hal⟩
      rw [enumD_get] at hx
      obtain ⟨d, hd, rfl⟩ := Option.map_eq_some_iff.mp hx
      obtain ⟨hi, e2⟩ := List.getElem?_eq_some_iff.mp hd
      rw [Nat.zero_add]
      show _
      walk_at "dl"
      refine ⟨⟨_, rfl⟩, ?_⟩
      show _ ∧ _
      rw [cut_from1]
      have h3 : (xs.drop (i + 1)).length ≤ 50 := by rw [List.length_drop]; omega
      refine ⟨by omega, compM_map (f := fun y => D.tup [d, y]) (fun y hy n2 k q => q) ?_⟩
      rw [List.length_map]
      refine ⟨by omega, rfl, _, _, _, rfl, ?_, ?_⟩
      · rw [← e, List.append_assoc]
        congr 1
        rw [List.drop_eq_getElem_cons hi, e2]
        unfold pairsD
        show _ = ((xs.drop (i + 1)).map (fun y => (d, y)) ++ pairsL (xs.drop (i + 1))).map tup2
        rw [List.map_append, List.map_map]
        rfl
      · rw [List.length_append, List.length_map]
        omega
    · rintro ρ n' ⟨rfl, acc, u, v, rfl, e, hal⟩
      walk_at "dl"
      rw [enumD_len, List.drop_length] at e
      have e2 : acc = pairsD xs := by rw [← e]; show acc = acc ++ []; rw [List.append_nil]
      rw [e2]
      exact p



theorem sc_law_crosses : FnScope ["one", "other", "both", "item"] ["one", "other"] (defScope s_law_crosses) := ⟨rfl, rfl, rfl, by decide +kernel, rfl, by decide +kernel, by decide +kernel⟩
theorem ok_law_crosses (T : Txt K mg cs tk0) (D : DefAt K mg "_law_crosses" s_law_crosses ["one", "other"]) : Has P w K mg base CX0 1 "_law_crosses" ["one", "other"] (sp0 K TT ds_law_crosses) := by
  obtain ⟨f, fd, F, hm, hk, hb⟩ := D
  refine ⟨f, fd, F.okD sc_law_crosses (len_law_crosses) (fun S cdv A outer s H E hr => ?_), hm, hk, hb⟩
  refine ⟨_, _, (pss_cons (ps_setLc (i := 2) (own := [("item", 3)]) (g := gName 3) rfl sc_law_crosses.nd rfl rfl (sw_true rfl rfl rfl (by decide +kernel)) (pi_tup (pv 0)) (blkOk_by (N := ["one", "other", "both", "item"]) (own := [("item", 3)]) (sc := defScope s_law_crosses) (by decide +kernel)) (fun _ _ _ _ _ => (pg_name (i := 3) sc_law_crosses.nd rfl (by first | exact Or.inl rfl | exact Or.inr rfl))) (fun _ _ _ _ _ => (pts_one (pt_cmpR op_in_seq (pv 3) (pv 1) (by with_unfolding_all rfl)))) (fun _ _ _ _ _ => (pv 3)))
      (pss_one (ps_ret (pe_and (pe_cmpR (op_neNil hr.units) (pv 2) (pe_lst pa_nil) (nomark _)) (pe_and (pe_cmpR op_lt (pe_callB call_lenU (by rfl) T.n_len (by decide +kernel) (pa_cons (pv 2) pa_nil)) (pe_callB call_lenU (by rfl) T.n_len (by decide +kernel) (pa_cons (pv 0) pa_nil)) (nomark _)) (pe_one (pe_cmpR op_lt (pe_callB call_lenU (by rfl) T.n_len (by decide +kernel) (pa_cons (pv 2) pa_nil)) (pe_callB call_lenU (by rfl) T.n_len (by decide +kernel) (pa_cons (pv 1) pa_nil)) (nomark _)))))))),
    (rds_seq (rds_set (rd_lc (rdj_of (rdi_tup (rd_var (i := 0)))) (rdg_name (vs := [3]) (by decide)) (rdt_test (rd_op o2_in (rd_var (i := 3)) (rd_var (i := 1)))) (rd_var (i := 3))))
      (rds_ret (rd_andV (rd_op o2_neNil (rd_var (i := 2)) (rd_lst rda_nil)) (rd_andV (rd_op o2_cmp (rd_cb cal_len (rda_cons (rd_var (i := 2)) rda_nil)) (rd_cb cal_len (rda_cons (rd_var (i := 0)) rda_nil))) (rd_op o2_cmp (rd_cb cal_len (rda_cons (rd_var (i := 2)) rda_nil)) (rd_cb cal_len (rda_cons (rd_var (i := 1)) rda_nil))))))), ?_⟩
  rintro ss n P ⟨xs, ys, rfl, h1, h2, p⟩
  walk_at "dl"
  refine ⟨by rw [List.length_map]; omega, compM_filter (f := inF ys) (fun x hx n2 k q => ?_) ?_⟩
  · obtain ⟨v, _, rfl⟩ := List.mem_map.mp hx
    refine ⟨v, ys, rfl, rfl, ?_⟩
    cases e : ys.any (· == v) with
    | true => simp only [inF, e] at q; exact q
    | false => simp only [inF, e] at q; exact q
  · rw [inF_map]
    have e1 : (!((sharedL xs ys).map D.int).isEmpty) = decide (0 < (sharedL xs ys).length) := by cases sharedL xs ys <;> rfl
    rw [e1, List.length_map, List.length_map, List.length_map]
    unfold crossB at p
    by_cases a0 : 0 < (sharedL xs ys).length
    · rw [decide_eq_true a0] at p ⊢
      by_cases a1 : ((sharedL xs ys).length : Int) < (xs.length : Int)
      · rw [decide_eq_true a1]
        rw [show decide ((sharedL xs ys).length < min xs.length ys.length) = decide (((sharedL xs ys).length : Int) < (ys.length : Int)) from decide_eq_decide.mpr (by omega)] at p
        exact p
      · rw [decide_eq_false a1]
        rw [show decide ((sharedL xs ys).length < min xs.length ys.length) = false from decide_eq_false (by omega)] at p
        exact p
    · rw [decide_eq_false a0] at p ⊢
      exact p


theorem sc_ties_at : FnScope ["ties", "place", "tie"] ["ties", "place"] (defScope s_ties_at) := ⟨rfl, rfl, rfl, by decide +kernel, rfl, by decide +kernel, by decide +kernel⟩
theorem ok_ties_at (T : Txt K mg cs tk0) (D : DefAt K mg "_ties_at" s_ties_at ["ties", "place"]) : Has P w K mg base CX0 1 "_ties_at" ["ties", "place"] (sp0 K TT ds_ties_at) := by
  obtain ⟨f, fd, F, hm, hk, hb⟩ := D
  refine ⟨f, fd, F.okD sc_ties_at (len_ties_at) (fun S cdv A outer s H E hr => ?_), hm, hk, hb⟩
  refine ⟨_, _, (pss_one (ps_ret (pe_lc (own := [("tie", 2)]) (g := gName 2) rfl sc_ties_at.nd (RZ.pi_seq (pv 0)) (blkOk_by (N := ["ties", "place", "tie"]) (own := [("tie", 2)]) (sc := defScope s_ties_at) (by decide +kernel)) (fun _ _ _ _ _ => (pg_name (i := 2) sc_ties_at.nd rfl (by first | exact Or.inl rfl | exact Or.inr rfl))) (fun _ _ _ _ _ => (pts_one (pt_cmpR op_in_seq (pv 1) (pv 2) (by with_unfolding_all rfl)))) (fun _ _ _ _ _ => (pv 2))))),
    (rds_ret (rd_lc (rdj_of (rdi_seq (rd_var (i := 0)))) (rdg_name (vs := [2]) (by decide)) (rdt_test (rd_op o2_in (rd_var (i := 1)) (rd_var (i := 2)))) (rd_var (i := 2)))), ?_⟩
  rintro ss n P ⟨d, ts, p, rfl, tq, hl, q0⟩
  rcases tq with rfl | rfl
  · walk_at "dl"
    refine ⟨by rw [List.length_map]; omega, compM_filter (f := atF p) (fun x hx n2 k q => ?_) ?_⟩
    · obtain ⟨t, _, rfl⟩ := List.mem_map.mp hx
      refine ⟨p, [t.1, t.2], rfl, rfl, ?_⟩
      have e : ([t.1, t.2].any (· == p)) = atB p t := by
        unfold atB
        by_cases h1 : t.1 = p
        · simp [h1]
        · by_cases h2 : t.2 = p
          · simp [h2]
          · simp [h1, h2]
      rw [e]
      have q' : k (match atB p (t.1, t.2) with | true => some (pairI (t.1, t.2)) | false => none) n2 := q
      have e2 : atB p (t.1, t.2) = atB p t := rfl
      rw [e2] at q'
      cases h : atB p t with
      | true =>
        rw [h] at q'
        exact q'
      | false =>
        rw [h] at q'
        exact q'
    · rw [atF_map]
      exact q0
  · walk_at "dl"
    refine ⟨by rw [List.length_map]; omega, compM_filter (f := atF p) (fun x hx n2 k q => ?_) ?_⟩
    · obtain ⟨t, _, rfl⟩ := List.mem_map.mp hx
      refine ⟨p, [t.1, t.2], rfl, rfl, ?_⟩
      have e : ([t.1, t.2].any (· == p)) = atB p t := by
        unfold atB
        by_cases h1 : t.1 = p
        · simp [h1]
        · by_cases h2 : t.2 = p
          · simp [h2]
          · simp [h1, h2]
      rw [e]
      have q' : k (match atB p (t.1, t.2) with | true => some (pairI (t.1, t.2)) | false => none) n2 := q
      have e2 : atB p (t.1, t.2) = atB p t := rfl
      rw [e2] at q'
      cases h : atB p t with
      | true =>
        rw [h] at q'
        exact q'
      | false =>
        rw [h] at q'
        exact q'
    · rw [atF_map]
      exact q0

theorem sc_steps_to : FnScope ["ties", "goal", "step", "reached", "place", "one", "other", "farther"] ["ties", "goal"] (defScope s_steps_to) := ⟨rfl, rfl, rfl, by decide +kernel, rfl, by decide +kernel, by decide +kernel⟩
theorem ok_steps_to (T : Txt K mg cs tk0) (D : DefAt K mg "steps_to" s_steps_to ["ties", "goal"]) (c_ties_at : Has P w K mg base CX0 1 "_ties_at" ["ties", "place"] (sp0 K TT ds_ties_at)) : Has P w K mg base CX0 2 "steps_to" ["ties", "goal"] (sp0 K TT ds_steps_to) := by
  obtain ⟨f, fd, F, hm, hk, hb⟩ := D
  obtain ⟨_, _, c_ties_at_ok, c_ties_at_m, c_ties_at_k, c_ties_at_b⟩ := c_ties_at
  refine ⟨f, fd, F.okD sc_steps_to (len_steps_to) (fun S cdv A outer s H E hr => ?_), hm, hk, hb⟩
  refine ⟨_, _, (pss_cons (ps_set (i := 2) sc_steps_to.nd rfl (by first | exact Or.inl rfl | exact Or.inr rfl) (pe_disp (pps_cons (pv 1) (pv 1) pps_nil) (by rfl) (by rfl) (fun z => by cases z) (by decide)))
      (pss_cons (ps_set (i := 3) sc_steps_to.nd rfl (by first | exact Or.inl rfl | exact Or.inr rfl) (pe_lst (pa_cons (pv 1) pa_nil)))
      (pss_cons (ps_while PassesOwn.never (pt_cmpR op_gt (pe_callB call_lenU (by rfl) T.n_len (by decide +kernel) (pa_cons (pv 3) pa_nil)) pe_int (nomark _)) (pss_cons (ps_set (i := 4) sc_steps_to.nd rfl (by first | exact Or.inl rfl | exact Or.inr rfl) (pe_bm0 PySem.F.plainAttrs_list PySem.F.slot_list_pop PySem.F.type_list_pop mt_pop (pv 3)))
      (pss_one (ps_for PassesOwn.never rfl (pi_list (pe_call c_ties_at_ok (hr.mono (by decide)) rfl c_ties_at_m c_ties_at_k c_ties_at_b .nil pass0 (pa_cons (pv 0) (pa_cons (pv 4) pa_nil)))) (pg_tup rfl (pgs_cons (pg_name (i := 5) sc_steps_to.nd rfl (by first | exact Or.inl rfl | exact Or.inr rfl)) (pgs_cons (pg_name (i := 6) sc_steps_to.nd rfl (by first | exact Or.inl rfl | exact Or.inr rfl)) pgs_nil))) (pss_cons (ps_set (i := 7) sc_steps_to.nd rfl (by first | exact Or.inl rfl | exact Or.inr rfl) (pe_ifExp (pt_cmpR (op_eqU hr.units) (pv 5) (pv 4) (nomark _)) (pv 6) (pv 5)))
      (pss_one (ps_if (pt_cmp (pc_dnotin (hu_of hr) (pv 7) (pv 2)) rfl) (pss_cons (ps_dput (hu_of hr) (pv 2) (pv 7) (pv 4) rfl)
      (pss_one (ps_expr (pe_bm PySem.F.plainAttrs_list PySem.F.slot_list_append PySem.F.type_list_append mt_append (pv 3) (pa_cons (pv 7) pa_nil))))) pss_nil)))))))
      (pss_one (ps_ret (pv 2)))))),
    (rds_seq (rds_setD (.cons (rd_var (i := 1)) (rd_var (i := 1)) .nil))
      (rds_seq (rds_setO (rdn_lst (rda_cons (rd_var (i := 1)) rda_nil)))
      (rds_seq (rds_while (rdt_view (i := 3) (rdt_test (rd_op o2_cmp (rd_cb cal_len (rda_cons (rd_var (i := 3)) rda_nil)) rd_int))) (rds_seq (rds_setPop0 (i := 4) (j := 3))
      (rds_for (rdi_list (rd_call0 (E := E0) (rda_cons (rd_var (i := 0)) (rda_cons (rd_var (i := 4)) rda_nil)))) (rdg_two (vs := [5, 6]) (by decide) (by decide)) (rds_seq (rds_set (rd_if (rdt_test (rd_op o2_eq (rd_var (i := 5)) (rd_var (i := 4)))) (rd_var (i := 6)) (rd_var (i := 5))))
      (rds_if (rdt_notInE (i := 2) (rd_var (i := 7))) (rds_seq (rds_putK (i := 2) (rd_var (i := 7)) (rd_var (i := 4)))
      (rds_appO (i := 3) (rd_var (i := 7)))) rds_next)))))
      (rds_retE (i := 2))))), ?_⟩
  rintro ss n P ⟨U, q, ts, goal, rfl, tq, t, g0, p⟩
  walk_at "dl"
  have tl := t.l
  have tu := t.u
  refine ⟨by simp, fun m ρ n' => n' = n ∧ ∃ (ks vs st : List Int) (u4 u5 u6 u7 : SV), ρ = [.d q, .d (.int goal), .od (ks.map keyI) (vs.map D.int), .ol (st.map D.int), u4, u5, u6, u7] ∧ m + ks.length = U.length + 1 + st.length ∧ StepU U ts goal ks vs st ∧ DoneI ts ks st [], ⟨U.length + 1, rfl, [goal], [goal], [goal], _, _, _, _, rfl, rfl, stepU_start g0, fun k hk hs => absurd hk hs⟩, ?_⟩
  rintro m ρ n' ⟨rfl, ks, vs, st, u4, u5, u6, u7, rfl, hm, hI, hD⟩
  have hfew := hI.few
  walk_at "dl"
  rw [List.length_map]
  cases st with
  | nil =>
    rw [show decide ((0 : Int) < (([] : List Int).length : Int)) = false from rfl]
    refine p ks vs ⟨hI, fun e he => ?_⟩
    exact ⟨fun hk => (hD e.1 hk (by simp) (by simp) e he).1 rfl, fun hk => (hD e.2 hk (by simp) (by simp) e he).2 rfl⟩
  | cons s0 st0 =>
    obtain ⟨ys, y, hst⟩ : ∃ ys y, s0 :: st0 = ys ++ [y] := ⟨(s0 :: st0).dropLast, (s0 :: st0).getLast (by simp), (List.dropLast_concat_getLast (by simp)).symm⟩
    rw [hst] at hI hD hm ⊢
    obtain ⟨hI2, hy, hyn⟩ := stepU_pop hI
    rw [decide_eq_true (by rw [List.length_append]; simp only [List.length_cons, List.length_nil]; omega)]
    refine ⟨ys.map D.int, .int y, by rw [List.map_append]; rfl, ?_⟩
    refine ⟨q, ts, y, rfl, tq, by omega, ?_⟩
    show ∃ _, _
    rw [List.length_append] at hm
    simp only [List.length_cons, List.length_nil] at hm
    refine ⟨fun i ρ n2 => n2 = n' ∧ ∃ (ks vs st : List Int) (u5 u6 u7 : SV), ρ = [.d q, .d (.int goal), .od (ks.map keyI) (vs.map D.int), .ol (st.map D.int), .d (.int y), u5, u6, u7] ∧ m + ks.length = U.length + 1 + (st.length + 1) ∧ StepU U ts goal ks vs st ∧ y ∈ ks ∧ y ∉ st ∧ DoneI ts ks st [y] ∧ ∀ (j : Nat) (e : Int × Int), j < i → (ts.filter (atB y))[j]? = some e → e.1 ∈ ks ∧ e.2 ∈ ks, ⟨rfl, ks, vs, ys, _, _, _, rfl, by omega, hI2, hy, hyn, ?_, fun j e hj => absurd hj (Nat.not_lt_zero _)⟩, ?_, ?_⟩
    · intro k hk hs hx
      exact hD k hk (fun z => (List.mem_append.mp z).elim hs hx) (by simp)
    · rintro i x ρ n2 hx ⟨rfl, ks, vs, st, v5, v6, v7, rfl, hm, hI, hy, hyn, hD, hP⟩
      rw [List.getElem?_map] at hx
      obtain ⟨⟨a, b⟩, he, rfl⟩ := Option.map_eq_some_iff.mp hx
      clear hx
      obtain ⟨he1, he2⟩ := List.mem_filter.mp (List.mem_of_getElem? he)
      have hat : a = y ∨ b = y := of_decide_eq_true he2
      have nxt : ∀ ks2 : List Int, (∀ z ∈ ks, z ∈ ks2) → (a ∈ ks2 ∧ b ∈ ks2) → ∀ (j : Nat) (e : Int × Int), j < i + 1 → (ts.filter (atB y))[j]? = some e → e.1 ∈ ks2 ∧ e.2 ∈ ks2 := fun ks2 h1 h2 j e hj ej => by
        rcases Nat.lt_succ_iff_lt_or_eq.mp hj with hj | hj
        · exact ⟨h1 _ (hP j e hj ej).1, h1 _ (hP j e hj ej).2⟩
        · subst hj
          rw [he] at ej
          cases ej
          exact h2
      show _
      walk_at "dl"
      show eqP id (.int a) (.int y) _
      rw [eqP_int]
      simp only [id]
      by_cases hay : a = y
      · rw [decide_eq_true hay]
        refine ⟨keyI b, rfl, ?_⟩
        rw [keys_in]
        by_cases hf : b ∈ ks
        · rw [decide_eq_true hf]
          exact ⟨ks, vs, st, _, _, _, rfl, hm, hI, hy, hyn, hD, nxt ks (fun z hz => hz) ⟨by rw [hay]; exact hy, hf⟩⟩
        · rw [decide_eq_false hf]
          have hfew := hI.few
          have hst : st.length ≤ ks.length := nlenT hI.snd hI.sub
          refine ⟨⟨_, _, rfl⟩, keyI b, rfl, fun z => ?_, by rw [List.length_map]; omega, by rw [List.length_map]; omega, ks ++ [b], vs ++ [y], st ++ [b], _, _, _, by rw [List.map_append, List.map_append, List.map_append]; rfl, by rw [List.length_append, List.length_append]; simp only [List.length_cons, List.length_nil]; omega, stepU_add hI hy hf (.inr (by rw [← hay]; exact he1)) (t.b _ he1).2, List.mem_append_left _ hy, fun z => (List.mem_append.mp z).elim hyn fun z2 => hf (by rw [← List.mem_singleton.mp z2]; exact hy), doneI_add hD, nxt (ks ++ [b]) (fun z hz => List.mem_append_left _ hz) ⟨List.mem_append_left _ (by rw [hay]; exact hy), List.mem_append_right _ (List.mem_singleton.mpr rfl)⟩⟩
          have := keyIn_mem.mpr z
          rw [keys_in] at this
          exact hf (of_decide_eq_true this)
      · have hby : b = y := hat.resolve_left hay
        rw [decide_eq_false hay]
        refine ⟨keyI a, rfl, ?_⟩
        rw [keys_in]
        by_cases hf : a ∈ ks
        · rw [decide_eq_true hf]
          exact ⟨ks, vs, st, _, _, _, rfl, hm, hI, hy, hyn, hD, nxt ks (fun z hz => hz) ⟨hf, by rw [hby]; exact hy⟩⟩
        · rw [decide_eq_false hf]
          have hfew := hI.few
          have hst : st.length ≤ ks.length := nlenT hI.snd hI.sub
          refine ⟨⟨_, _, rfl⟩, keyI a, rfl, fun z => ?_, by rw [List.length_map]; omega, by rw [List.length_map]; omega, ks ++ [a], vs ++ [y], st ++ [a], _, _, _, by rw [List.map_append, List.map_append, List.map_append]; rfl, by rw [List.length_append, List.length_append]; simp only [List.length_cons, List.length_nil]; omega, stepU_add hI hy hf (.inl (by rw [← hby]; exact he1)) (t.b _ he1).1, List.mem_append_left _ hy, fun z => (List.mem_append.mp z).elim hyn fun z2 => hf (by rw [← List.mem_singleton.mp z2]; exact hy), doneI_add hD, nxt (ks ++ [a]) (fun z hz => List.mem_append_left _ hz) ⟨List.mem_append_right _ (List.mem_singleton.mpr rfl), List.mem_append_left _ (by rw [hby]; exact hy)⟩⟩
          have := keyIn_mem.mpr z
          rw [keys_in] at this
          exact hf (of_decide_eq_true this)
    · rintro ρ n2 ⟨rfl, ks, vs, st, v5, v6, v7, rfl, hm, hI, hy, hyn, hD, hP⟩
      rw [List.length_map] at hP
      refine ⟨m - 1, by have := hI.few; omega, rfl, ks, vs, st, _, _, _, _, rfl, by have := hI.few; omega, hI, fun k hk hs _ e he => ?_⟩
      by_cases hky : k = y
      · subst hky
        have hin : ∀ e ∈ ts, atB k e = true → e.1 ∈ ks ∧ e.2 ∈ ks := fun e he hb => by
          obtain ⟨j, ej⟩ := List.mem_iff_getElem?.mp (List.mem_filter.mpr ⟨he, hb⟩)
          exact hP j e (List.getElem?_eq_some_iff.mp ej).1 ej
        exact ⟨fun e1 => (hin e he (decide_eq_true (.inl e1))).2, fun e1 => (hin e he (decide_eq_true (.inr e1))).1⟩
      · exact hD k hk hs (by simp [hky]) e he


theorem sc_law_founded : FnScope ["state", "many", "size_here", "lap", "rows_here", "fresh", "ahead", "source", "row", "spot"] ["state", "many", "size_here"] (defScope s_law_founded) := ⟨rfl, rfl, rfl, by decide +kernel, rfl, by decide +kernel, by decide +kernel⟩
theorem ok_law_founded (T : Txt K mg cs tk0) (D : DefAt K mg "_law_founded" s_law_founded ["state", "many", "size_here"]) (c_law_draw : Has P w K mg base CX0 1 "_law_draw" ["state", "size_here"] (sp0 K TT ds_law_draw)) (c_law_put : Has P w K mg base CX0 1 "_law_put" ["row", "spot", "item"] (sp0 K TT ds_law_put)) : Has P w K mg base CX0 2 "_law_founded" ["state", "many", "size_here"] (sp0 K TT ds_law_founded) := by
  obtain ⟨f, fd, F, hm, hk, hb⟩ := D
  obtain ⟨_, _, c_law_draw_ok, c_law_draw_m, c_law_draw_k, c_law_draw_b⟩ := c_law_draw
  obtain ⟨_, _, c_law_put_ok, c_law_put_m, c_law_put_k, c_law_put_b⟩ := c_law_put
  refine ⟨f, fd, F.okD sc_law_founded (len_law_founded) (fun S cdv A outer s H E hr => ?_), hm, hk, hb⟩
  refine ⟨_, _, (pss_cons (ps_par3 (i := 4) (j := 5) (l := 6) rfl sc_law_founded.nd rfl rfl rfl (by decide) (by decide) (by decide) rfl rfl rfl (pa_cons (pe_lst (pa_cons (pe_op op_mul1 (pe_tup (pa_cons pe_int pa_nil)) (pe_callB call_lenU (by rfl) T.n_len (by decide +kernel) (pa_cons (pv 2) pa_nil))) pa_nil)) (pa_cons (pe_op op_rep (pe_lst (pa_cons pe_int pa_nil)) (pe_callB call_lenU (by rfl) T.n_len (by decide +kernel) (pa_cons (pv 2) pa_nil))) (pa_cons (pe_lst (pa_cons pe_non pa_nil)) pa_nil))) (by rfl))
      (pss_cons (ps_for PassesOwn.never rfl (pi_range1 (by rfl) T.n_range (pa_cons (pe_op op_mulU pe_int (pv 1)) pa_nil)) (pg_name (i := 3) sc_law_founded.nd rfl (by first | exact Or.inl rfl | exact Or.inr rfl)) (pss_cons (ps_set (i := 7) sc_law_founded.nd rfl (by first | exact Or.inl rfl | exact Or.inr rfl) (pe_call c_law_draw_ok (hr.mono (by decide)) rfl c_law_draw_m c_law_draw_k c_law_draw_b .nil pass0 (pa_cons (pv 0) (pa_cons (pe_callB call_lenU (by rfl) T.n_len (by decide +kernel) (pa_cons (pv 4) pa_nil)) pa_nil))))
      (pss_cons (ps_set (i := 8) sc_law_founded.nd rfl (by first | exact Or.inl rfl | exact Or.inr rfl) (pe_ix ix_seq (pv 4) (pv 7) (fun _ _ => rfl)))
      (pss_cons (ps_for PassesOwn.never rfl (pi_range1 (by rfl) T.n_range (pa_cons (pe_callB call_lenU (by rfl) T.n_len (by decide +kernel) (pa_cons (pv 2) pa_nil)) pa_nil)) (pg_name (i := 9) sc_law_founded.nd rfl (by first | exact Or.inl rfl | exact Or.inr rfl)) (pss_one (ps_if (PW.pt (pw_and (pt_cmpR op_lt (pe_ix ix_seq (pv 5) (pv 9) (fun _ _ => rfl)) (pe_ix ix_seq (pv 2) (pv 9) (fun _ _ => rfl)) (nomark _)) (pw_and1 (pt_cmpR (op_eqU hr.units) (pe_call c_law_draw_ok (hr.mono (by decide)) rfl c_law_draw_m c_law_draw_k c_law_draw_b .nil pass0 (pa_cons (pv 0) (pa_cons pe_int pa_nil))) pe_int (nomark _))))) (pss_cons (ps_set (i := 8) sc_law_founded.nd rfl (by first | exact Or.inl rfl | exact Or.inr rfl) (pe_call c_law_put_ok (hr.mono (by decide)) rfl c_law_put_m c_law_put_k c_law_put_b .nil pass0 (pa_cons (pv 8) (pa_cons (pv 9) (pa_cons (pe_ix ix_seq (pv 5) (pv 9) (fun _ _ => rfl)) pa_nil)))))
      (pss_one (ps_asg (pe_op op_addU (pe_ix ix_seq (pv 5) (pv 9) (fun _ _ => rfl)) pe_int) (pg_sub (pv 5) (pv 9) set_list)))) pss_nil)))
      (pss_cons (ps_expr (pe_bm PySem.F.plainAttrs_list PySem.F.slot_list_append PySem.F.type_list_append mt_append (pv 4) (pa_cons (pv 8) pa_nil)))
      (pss_one (ps_expr (pe_bm PySem.F.plainAttrs_list PySem.F.slot_list_append PySem.F.type_list_append mt_append (pv 6) (pa_cons (pv 7) pa_nil)))))))))
      (pss_one (ps_ret (pe_tup (pa_cons (pv 4) (pa_cons (pv 6) pa_nil))))))),
    (rds_seq (rds_par3M (i := 4) (j := 5) (l := 6) (rdm_n (rdn_lst (rda_cons (rd_op o2_mul1 (rd_tup (rda_cons rd_int rda_nil)) (rd_cb cal_len (rda_cons (rd_var (i := 2)) rda_nil))) rda_nil))) (rdm_n (rdn_repL (rda_cons rd_int rda_nil) (rd_cb cal_len (rda_cons (rd_var (i := 2)) rda_nil)))) (rdm_n (rdn_lst (rda_cons rd_non rda_nil))))
      (rds_seq (rds_for (rdi_range1 (rda_cons (rd_op o2_mul rd_int (rd_var (i := 1))) rda_nil)) (rdg_name (vs := [3]) (by decide)) (rds_seq (rds_set (rd_call0 (E := E0) (rda_st (i := 0) (rda_cons (rd_lenO (i := 4)) rda_nil))))
      (rds_seq (rds_set (rd_ixO (i := 4) (rd_var (i := 7))))
      (rds_seq (rds_for (rdi_range1 (rda_cons (rd_cb cal_len (rda_cons (rd_var (i := 2)) rda_nil)) rda_nil)) (rdg_name (vs := [9]) (by decide)) (rds_if (rdt_and (rdt_test (rd_op o2_cmp (rd_ixO (i := 5) (rd_var (i := 9))) (rd_op o2_ix (rd_var (i := 2)) (rd_var (i := 9))))) (rdt_test (rd_op o2_eq (rd_call0 (E := E0) (rda_st (i := 0) (rda_cons rd_int rda_nil))) rd_int))) (rds_seq (rds_set (rd_call0 (E := E0) (rda_cons (rd_var (i := 8)) (rda_cons (rd_var (i := 9)) (rda_cons (rd_ixO (i := 5) (rd_var (i := 9))) rda_nil)))))
      (rds_putO (i := 5) (rd_op o2_add (rd_ixO (i := 5) (rd_var (i := 9))) rd_int) (rd_var (i := 9)))) rds_next))
      (rds_seq (rds_appO (i := 4) (rd_var (i := 8)))
      (rds_appO (i := 6) (rd_var (i := 7))))))))
      (rds_frz (i := 6) (rds_frz (i := 4) (rds_ret (rd_tup (rda_cons (rd_var (i := 4)) (rda_cons (rd_var (i := 6)) rda_nil)))))))), ?_⟩
  rintro ss n P ⟨many, ks, rfl, hm, k1, k8, kb, hn, p⟩
  have hn' : n + 1000 < 1099511627776 := hn
  walk_at "dl"
  have kl : (ks.map D.int).length = ks.length := List.length_map ..
  have kr : tupI (List.replicate ks.length 0) = D.tup (List.replicate ks.length (D.int 0)) := by
    unfold tupI
    rw [List.map_replicate]
  have c1 : ks.length = 1 → ((ks.map D.int).length : Int) = 1 := fun z => by rw [kl, z]; rfl
  have c2 : ks.length ≠ 1 → (2 : Int) ≤ ((ks.map D.int).length : Int) ∧ ((ks.map D.int).length : Int) ≤ 1000 := fun z => by rw [kl]; omega
  have d1 : ks.length = 1 → D.tup [D.int 0] = tupI (List.replicate ks.length 0) := fun z => by rw [kr, z]; rfl
  have d2 : D.tup (List.replicate ((ks.map D.int).length : Int).toNat [D.int 0]).flatten = tupI (List.replicate ks.length 0) := by rw [kr, kl, Int.toNat_natCast, rep_one]
  apply full_way
  · intro rest
    show _ ∨ _
    by_cases z : ks.length = 1
    · refine .inl ⟨c1 z, ?_⟩
      rw [d1 z]
      exact rest
    · refine .inr ⟨List.cons_ne_nil _ _, (c2 z).1, (c2 z).2, Nat.le_of_ble_eq_true rfl, ?_⟩
      rw [d2]
      exact rest
  show ∃ c : Nat, D.int ((ks.map D.int).length : Int) = .int (c : Int) ∧ _
  rw [kl]
  refine ⟨ks.length, rfl, by omega, .inl ⟨by decide, by decide⟩, by omega, by omega, ?_⟩
  rw [rep_one]
  have e2 : (2 * (many : Int)).toNat = 2 * many := by omega
  rw [e2]
  rw [show List.replicate ks.length (D.int 1) = (List.replicate ks.length 1).map D.int by rw [List.map_replicate]]
  refine ⟨fun i ρ n' => n' ≤ n + 12 * i ∧ ∃ (rss : List (List Int)) (fr : List Int) (ah : List D) (u3 u7 u8 u9 : SV), ρ = [.st, .d (.int many), .d (tupI ks), u3, .ol (rss.map tupI), .ol (fr.map D.int), .ol ah, u7, u8, u9] ∧ rss.length = i + 1 ∧ ah.length = i + 1 ∧ (∀ r ∈ rss, RowF ks r) ∧ Fresh1 ks fr, ⟨by omega, [List.replicate ks.length 0], List.replicate ks.length 1, [.non], _, _, _, _, rfl, rfl, rfl, fun r hr => by rw [List.mem_singleton.mp hr]; exact rowF_zero kb, fresh_one kb⟩, ?_, ?_⟩
  · rintro i x ρ n' hx ⟨hn1, rss, fr, ah, u3, u7, u8, u9, rfl, hl, ha, hr, hf⟩
    have hi := (List.getElem?_eq_some_iff.mp hx).1
    rw [rangeA_len] at hi
    clear hx
    walk_at "dl"
    show ds_law_draw _ _ _
    rw [List.length_map]
    refine ⟨_, rfl, by omega, by omega, lim (by omega), fun s n2 s0 s1 hn2 => ?_⟩
    obtain ⟨s, rfl⟩ := Int.eq_ofNat_of_zero_le s0
    have hs : s < rss.length := by omega
    refine ⟨tupI rss[s], at_nat (by rw [List.getElem?_map, List.getElem?_eq_getElem hs]; rfl), ?_⟩
    have hrow := hr _ (List.getElem_mem hs)
    generalize rss[s] = row at hrow ⊢
    show _ ∧ _ ∧ ∃ I, _
    rw [kl]
    refine ⟨by omega, by omega, fun j ρ n' => n' ≤ n2 + j ∧ ∃ (r fr' : List Int) (v9 : SV), ρ = [.st, .d (.int many), .d (tupI ks), .d x, .ol (rss.map tupI), .ol (fr'.map D.int), .ol ah, .d (.int (s : Nat)), .d (tupI r), v9] ∧ RowF ks r ∧ Fresh1 ks fr', ⟨by omega, row, fr, _, rfl, hrow, hf⟩, ?_, ?_⟩
    · rintro j y ρ n3 hy ⟨hn3, r, fr', v9, rfl, hr', hf'⟩
      obtain ⟨hj, rfl⟩ := range_get hy
      clear hy
      have hjf : j < fr'.length := by rw [hf'.len]; exact hj
      have hjr : j < r.length := by rw [hr'.len]; exact hj
      have kj : ks[j]? = some ks[j] := List.getElem?_eq_getElem hj
      have fj : fr'[j]? = some fr'[j] := List.getElem?_eq_getElem hjf
      generalize ks[j] = kk at kj
      generalize fr'[j] = ff at fj
      have hc := hf'.c j kk ff kj fj
      have kk6 := kb kk (List.mem_of_getElem? kj)
      walk_at "dl"
      refine ⟨.int ff, at_nat (by rw [List.getElem?_map, fj]; rfl), ?_⟩
      show ∃ d, _ ∧ _
      refine ⟨.int kk, at_nat (by rw [List.getElem?_map, kj]; rfl), ?_⟩
      show (match decide (ff < kk) with | true => _ | false => _ : Prop)
      by_cases hlt : ff < kk
      · rw [decide_eq_true hlt]
        show ds_law_draw _ _ _
        refine ⟨3, rfl, by decide, by decide, lim (by omega), fun q n4 q0 q1 hn4 => ?_⟩
        show eqP id (.int q) (.int 0) _
        rw [eqP_int]
        simp only [id]
        cases decide (q = 0) with
        | false => exact ⟨by omega, r, fr', _, rfl, hr', hf'⟩
        | true =>
          refine ⟨.int ff, at_nat (by rw [List.getElem?_map, fj]; rfl), ?_⟩
          show ds_law_put _ _ _
          refine ⟨r.map D.int, j, .int ff, rfl, by rw [List.length_map]; exact hjr, by rw [List.length_map, hr'.len]; omega, ?_⟩
          refine ⟨.int ff, at_nat (by rw [List.getElem?_map, fj]; rfl), ?_⟩
          refine ⟨j, ix_nat (by rw [List.length_map]; exact hjf), ?_⟩
          rw [put_at (by rw [List.length_map]; exact hjr), ← List.map_set]
          refine ⟨by omega, r.set j ff, fr'.set j (ff + 1), .d (.int (j : Nat)), ?_, hr'.set kj (by omega) hlt, hf'.step kj fj hlt⟩
          rw [show tupI (r.set j ff) = .tup ((r.map D.int).set j (.int ff)) by unfold tupI; rw [List.map_set], List.map_set]
      · rw [decide_eq_false hlt]
        exact ⟨by omega, r, fr', _, rfl, hr', hf'⟩
    · rintro ρ n3 ⟨hn3, r, fr', v9, rfl, hr', hf'⟩
      rw [range_len] at hn3
      walk_at "dl"
      refine ⟨by rw [List.length_map]; omega, by omega, ?_⟩
      refine ⟨by omega, rss ++ [r], fr', ah ++ [.int (s : Nat)], _, _, _, _, by rw [List.map_append]; rfl, by rw [List.length_append, hl]; rfl, by rw [List.length_append, ha]; rfl, fun z hz => ?_, hf'⟩
      rcases List.mem_append.mp hz with hz | hz
      · exact hr z hz
      · rw [List.mem_singleton.mp hz]
        exact hr'
  · rintro ρ n' ⟨hn1, rss, fr, ah, u3, u7, u8, u9, rfl, hl, ha, hr, hf⟩
    rw [rangeA_len] at hl hn1
    walk_at "dl"
    exact p rss ah n' hl hr (by omega)

theorem sc_law_true : FnScope ["state", "many", "kinds_here", "orders", "some", "rows_told", "rows_here", "ahead", "size_here", "row", "order", "item"] ["state", "many", "kinds_here"] (defScope s_law_true) := ⟨rfl, rfl, rfl, by decide +kernel, rfl, by decide +kernel, by decide +kernel⟩
theorem ok_law_true (T : Txt K mg cs tk0) (D : DefAt K mg "_law_true" s_law_true ["state", "many", "kinds_here"]) (c_law_founded : Has P w K mg base CX0 2 "_law_founded" ["state", "many", "size_here"] (sp0 K TT ds_law_founded)) (c_law_mixed : Has P w K mg base CX0 2 "_law_mixed" ["state", "several"] (sp0 K TT ds_law_mixed)) : Has P w K mg base CX0 3 "_law_true" ["state", "many", "kinds_here"] (sp0 K TT ds_law_true) := by
  obtain ⟨f, fd, F, hm, hk, hb⟩ := D
  obtain ⟨_, _, c_law_founded_ok, c_law_founded_m, c_law_founded_k, c_law_founded_b⟩ := c_law_founded
  obtain ⟨_, _, c_law_mixed_ok, c_law_mixed_m, c_law_mixed_k, c_law_mixed_b⟩ := c_law_mixed
  refine ⟨f, fd, F.okD sc_law_true (len_law_true) (fun S cdv A outer s H E hr => ?_), hm, hk, hb⟩
  refine ⟨_, _, (pss_cons (ps_asg (pe_call c_law_founded_ok (hr.mono (by decide)) rfl c_law_founded_m c_law_founded_k c_law_founded_b .nil pass0 (pa_cons (pv 0) (pa_cons (pv 1) (pa_cons (pv 2) pa_nil)))) (pg_tup rfl (pgs_cons (pg_name (i := 6) sc_law_true.nd rfl (by first | exact Or.inl rfl | exact Or.inr rfl)) (pgs_cons (pg_name (i := 7) sc_law_true.nd rfl (by first | exact Or.inl rfl | exact Or.inr rfl)) pgs_nil))))
      (pss_cons (ps_set (i := 3) sc_law_true.nd rfl (by first | exact Or.inl rfl | exact Or.inr rfl) (pe_lc (own := [("size_here", 8)]) (g := gName 8) rfl sc_law_true.nd (pi_tup (pv 2)) (blkOk_by (N := ["state", "many", "kinds_here", "orders", "some", "rows_told", "rows_here", "ahead", "size_here", "row", "order", "item"]) (own := [("size_here", 8)]) (sc := defScope s_law_true) (by decide +kernel)) (fun _ _ _ _ _ => (pg_name (i := 8) sc_law_true.nd rfl (by first | exact Or.inl rfl | exact Or.inr rfl))) (fun _ _ _ _ _ => pts_nil) (fun _ _ _ _ _ => (pe_call c_law_mixed_ok (hr.mono (by decide)) rfl c_law_mixed_m c_law_mixed_k c_law_mixed_b .nil pass0 (pa_cons (pv 0) (pa_cons (RZ.pe_listRng (by rfl) T.n_list (by rfl) T.n_range (pa_cons (pv 8) pa_nil)) pa_nil))))))
      (pss_cons (ps_set (i := 4) sc_law_true.nd rfl (by first | exact Or.inl rfl | exact Or.inr rfl) (pe_slice sl_U (pe_call c_law_mixed_ok (hr.mono (by decide)) rfl c_law_mixed_m c_law_mixed_k c_law_mixed_b .nil pass0 (pa_cons (pv 0) (pa_cons (pv 6) pa_nil))) po_none (po_some (pv 1))))
      (pss_cons (ps_setLc (i := 5) (own := [("row", 9)]) (g := gName 9) rfl sc_law_true.nd rfl rfl (sw_true rfl rfl rfl (by decide +kernel)) (pi_list (pv 4)) (blkOk_by (N := ["state", "many", "kinds_here", "orders", "some", "rows_told", "rows_here", "ahead", "size_here", "row", "order", "item"]) (own := [("row", 9)]) (sc := defScope s_law_true) (by decide +kernel)) (fun _ _ _ _ _ => (pg_name (i := 9) sc_law_true.nd rfl (by first | exact Or.inl rfl | exact Or.inr rfl))) (fun _ _ _ _ _ => pts_nil) (fun _ _ _ _ _ => (pe_callTy call_tupU (by rfl) T.n_tuple (by decide +kernel) (pa_cons (pe_lc (own := [("order", 10), ("item", 11)]) (g := gTup _ 2 (gCons (gName 10) (gCons (gName 11) gNil))) rfl sc_law_true.nd (RZ.pi_zipM (by rfl) T.n_zip (pa_cons (pv 3) (pa_cons (pv 9) pa_nil))) (blkOk_by (N := ["state", "many", "kinds_here", "orders", "some", "rows_told", "rows_here", "ahead", "size_here", "row", "order", "item"]) (own := [("order", 10), ("item", 11)]) (by rfl)) (fun _ _ _ _ _ => (pg_tup rfl (pgs_cons (pg_name (i := 10) sc_law_true.nd rfl (by first | exact Or.inl rfl | exact Or.inr rfl)) (pgs_cons (pg_name (i := 11) sc_law_true.nd rfl (by first | exact Or.inl rfl | exact Or.inr rfl)) pgs_nil)))) (fun _ _ _ _ _ => pts_nil) (fun _ _ _ _ _ => (pe_ix ix_seq (pv 10) (pv 11) (fun _ _ => rfl)))) pa_nil))))
      (pss_one (ps_ret (pe_disp (pps_cons pe_str (pv 2) (pps_cons pe_str (pe_callTy call_tupU (by rfl) T.n_tuple (by decide +kernel) (pa_cons (pv 5) pa_nil)) pps_nil)) (by rfl) (by rfl) (fun z => by cases z) (by decide)))))))),
    (rds_seq (rds_asgG (rd_call0 (E := E0) (rda_st (i := 0) (rda_cons (rd_var (i := 1)) (rda_cons (rd_var (i := 2)) rda_nil)))) (rdg_two (vs := [6, 7]) (by decide) (by decide)))
      (rds_seq (rds_set (rd_lc (rdj_of (rdi_tup (rd_var (i := 2)))) (rdg_name (vs := [8]) (by decide)) rdt_yes (rd_call0 (E := E0) (rda_st (i := 0) (rda_cons (rd_listRng (rda_cons (rd_var (i := 8)) rda_nil)) rda_nil)))))
      (rds_seq (rds_set (rd_sl (rd_call0 (E := E0) (rda_st (i := 0) (rda_cons (rd_var (i := 6)) rda_nil))) rdo_none (rdo_some (rd_var (i := 1)))))
      (rds_seq (rds_set (rd_lc (rdj_of (rdi_list (rd_var (i := 4)))) (rdg_name (vs := [9]) (by decide)) rdt_yes (rd_cb cal_tuple (rda_cons (rd_lc (rdj_of (rdi_zipM (rda_cons (rd_var (i := 3)) (rda_cons (rd_var (i := 9)) rda_nil)))) (rdg_two (vs := [10, 11]) (by decide) (by decide)) rdt_yes (rd_op o2_ix (rd_var (i := 10)) (rd_var (i := 11)))) rda_nil))))
      (rds_ret (rd_disp (.cons rd_str (rd_var (i := 2)) (.cons rd_str (rd_cb cal_tuple (rda_cons (rd_var (i := 5)) rda_nil)) .nil)))))))), ?_⟩
  rintro ss n P ⟨many, ks, rfl, m1, m12, k1, k8, kb, hn, p⟩
  have hn' : n + 2000 < 1099511627776 := hn
  walk_at "dl"
  refine ⟨many, ks, rfl, m12, k1, k8, kb, lim (by omega), fun rss ah n1 hl hr hn1 => ?_⟩
  have kl : (ks.map D.int).length = ks.length := List.length_map ..
  show _ ∧ _
  refine ⟨by omega, compM_gen (c := 6) (N := n1 + 100) (good := OrdK) _ _ _ (by rw [kl]; omega) (fun x hx m q hm hq => ?_) fun ds n2 hn2 hdl hds => ?_⟩
  · obtain ⟨k, hk, rfl⟩ := List.mem_map.mp hx
    have b := kb k hk
    refine ⟨k, rfl, by omega, by omega, ?_⟩
    show ds_law_mixed _ _ _
    refine ⟨_, .inl rfl, by rw [natsD_len]; omega, lim (by omega), fun ys m' hp hm' => ?_⟩
    rw [natsD_len] at hm'
    obtain ⟨os, rfl, ol, ob⟩ := mixed_nats hp
    exact hq _ _ (by omega) ⟨k, os, rfl, rfl, ol, fun v hv => by have := ob v hv; omega⟩
  · rw [kl] at hdl hn2
    show ds_law_mixed _ _ _
    refine ⟨_, .inl rfl, by rw [List.length_map]; omega, lim (by omega), fun ys n3 hp hn3 => ?_⟩
    rw [List.length_map] at hn3
    obtain ⟨rs, rfl, rl, rm⟩ := perm_tups hp
    show _ ∧ _
    rw [cut_to, ← List.map_take]
    have tl : (rs.take many).length = many := by rw [List.length_take]; omega
    refine ⟨by rw [List.length_map]; omega, compM_gen (c := 0) (N := n3) (good := fun x d => ∃ r, d = tupI r ∧ RowF ks r) _ _ _ (by omega) (fun x hx m q hm hq => ?_) fun es n4 hn4 hel hes => ?_⟩
    · obtain ⟨r, hr2, rfl⟩ := List.mem_map.mp hx
      have rr := hr r (rm r (List.mem_of_mem_take hr2))
      have zl : (zipD ds (r.map D.int)).length = ks.length := by
        unfold zipD
        rw [List.length_map, List.length_zip, List.length_map, hdl, rr.len]
        omega
      show _ ∧ _
      refine ⟨by omega, compM_gen (c := 0) (N := m) (good := OrdV) _ _ _ (by omega) (fun x hx m' q' hm' hq' => ?_) fun fs m' hm' hfl hfs => ?_⟩
      · obtain ⟨i, hi⟩ := List.mem_iff_getElem?.mp hx
        have hik : i < ks.length := by rw [← zl]; exact (List.getElem?_eq_some_iff.mp hi).1
        obtain ⟨o, it, eo, ei, rfl⟩ := zipD_get hi
        have hk : (ks.map D.int)[i]? = some (.int ks[i]) := by rw [List.getElem?_map, List.getElem?_eq_getElem hik]; rfl
        obtain ⟨k, os, ek, rfl, ol, ob⟩ := hds i _ o hk eo
        rw [List.getElem?_map] at ei
        obtain ⟨c, hc, rfl⟩ := Option.map_eq_some_iff.mp ei
        have hc2 := rr.c i ks[i] c (List.getElem?_eq_getElem hik) hc
        obtain ⟨c, rfl⟩ := Int.eq_ofNat_of_zero_le hc2.1
        have e9 := D.int.inj ek
        have hcl : c < os.length := by omega
        refine ⟨.int os[c], at_nat (by rw [List.getElem?_map, List.getElem?_eq_getElem hcl]; rfl), ?_⟩
        exact hq' _ _ (Nat.le_refl _) ⟨os, _, os[c], rfl, rfl, List.getElem_mem hcl⟩
      · obtain ⟨r', rfl, hr'⟩ := told_row hdl hds rr hfl hfs
        exact hq _ _ (by omega) ⟨r', rfl, hr'⟩
    · obtain ⟨rs2, rfl, hrs2⟩ := rowsF_of hes hel
      rw [List.length_map, List.length_map, tl] at hel
      have fin := p rs2 n4 ⟨⟨k1, k8⟩, kb, by omega, hrs2⟩ hel (by omega)
      exact ⟨by decide, fin⟩

theorem sc_law_any : FnScope ["state", "many", "kinds_here", "rows_here", "lap", "size_here"] ["state", "many", "kinds_here"] (defScope s_law_any) := ⟨rfl, rfl, rfl, by decide +kernel, rfl, by decide +kernel, by decide +kernel⟩
theorem ok_law_any (T : Txt K mg cs tk0) (D : DefAt K mg "_law_any" s_law_any ["state", "many", "kinds_here"]) (c_law_draw : Has P w K mg base CX0 1 "_law_draw" ["state", "size_here"] (sp0 K TT ds_law_draw)) : Has P w K mg base CX0 2 "_law_any" ["state", "many", "kinds_here"] (sp0 K TT ds_law_any) := by
  obtain ⟨f, fd, F, hm, hk, hb⟩ := D
  obtain ⟨_, _, c_law_draw_ok, c_law_draw_m, c_law_draw_k, c_law_draw_b⟩ := c_law_draw
  refine ⟨f, fd, F.okD sc_law_any (len_law_any) (fun S cdv A outer s H E hr => ?_), hm, hk, hb⟩
  refine ⟨_, _, (pss_cons (ps_setLc (i := 3) (own := [("lap", 4)]) (g := gName 4) rfl sc_law_any.nd rfl rfl (sw_true rfl rfl rfl (by decide +kernel)) (pi_range1 (by rfl) T.n_range (pa_cons (pv 1) pa_nil)) (blkOk_by (N := ["state", "many", "kinds_here", "rows_here", "lap", "size_here"]) (own := [("lap", 4)]) (sc := defScope s_law_any) (by decide +kernel)) (fun _ _ _ _ _ => (pg_name (i := 4) sc_law_any.nd rfl (by first | exact Or.inl rfl | exact Or.inr rfl))) (fun _ _ _ _ _ => pts_nil) (fun _ _ _ _ _ => (pe_callTy call_tupU (by rfl) T.n_tuple (by decide +kernel) (pa_cons (pe_lc (own := [("size_here", 5)]) (g := gName 5) rfl sc_law_any.nd (pi_tup (pv 2)) (blkOk_by (N := ["state", "many", "kinds_here", "rows_here", "lap", "size_here"]) (own := [("size_here", 5)]) (by rfl)) (fun _ _ _ _ _ => (pg_name (i := 5) sc_law_any.nd rfl (by first | exact Or.inl rfl | exact Or.inr rfl))) (fun _ _ _ _ _ => pts_nil) (fun _ _ _ _ _ => (pe_call c_law_draw_ok (hr.mono (by decide)) rfl c_law_draw_m c_law_draw_k c_law_draw_b .nil pass0 (pa_cons (pv 0) (pa_cons (pv 5) pa_nil))))) pa_nil))))
      (pss_one (ps_ret (pe_disp (pps_cons pe_str (pv 2) (pps_cons pe_str (pe_callTy call_tupU (by rfl) T.n_tuple (by decide +kernel) (pa_cons (pv 3) pa_nil)) pps_nil)) (by rfl) (by rfl) (fun z => by cases z) (by decide))))),
    (rds_seq (rds_set (rd_lc (rdj_of (rdi_range1 (rda_cons (rd_var (i := 1)) rda_nil))) (rdg_name (vs := [4]) (by decide)) rdt_yes (rd_cb cal_tuple (rda_cons (rd_lc (rdj_of (rdi_tup (rd_var (i := 2)))) (rdg_name (vs := [5]) (by decide)) rdt_yes (rd_call0 (E := E0) (rda_st (i := 0) (rda_cons (rd_var (i := 5)) rda_nil)))) rda_nil))))
      (rds_ret (rd_disp (.cons rd_str (rd_var (i := 2)) (.cons rd_str (rd_cb cal_tuple (rda_cons (rd_var (i := 3)) rda_nil)) .nil))))), ?_⟩
  rintro ss n P ⟨many, ks, rfl, m1, m12, k1, k8, kb, hn, p⟩
  have hn' : n + 2000 < 1099511627776 := hn
  walk_at "dl"
  have kl : (ks.map D.int).length = ks.length := List.length_map ..
  have erl : (rangeD 0 (many : Int).toNat).length = many := range_len
  refine ⟨by omega, by omega, by omega, compM_gen (c := 8) (N := n + 100) (good := fun x d => ∃ r, d = tupI r ∧ RowF ks r) _ _ _ (by omega) (fun x hx m q hm hq => ?_) fun es n4 hn4 hel hes => ?_⟩
  · show _ ∧ _
    refine ⟨by omega, compM_gen (c := 1) (N := m + 8) (good := fun x d => ∃ k v, x = .int k ∧ d = .int v ∧ 0 ≤ v ∧ v < k) _ _ _ (by omega) (fun x hx m' q' hm' hq' => ?_) fun fs m' hm' hfl hfs => ?_⟩
    · obtain ⟨k, hk, rfl⟩ := List.mem_map.mp hx
      have b := kb k hk
      show ds_law_draw _ _ _
      exact ⟨k, rfl, by omega, by omega, lim (by omega), fun v m2 v0 v1 hm2 => hq' _ _ (by omega) ⟨k, v, rfl, rfl, v0, v1⟩⟩
    · rw [kl] at hfl hm'
      obtain ⟨r, rfl, hr⟩ := row_of (ks := ks) (es := fs) (fun i d e => by
        have hi : i < ks.length := by rw [← hfl]; exact (List.getElem?_eq_some_iff.mp e).1
        have hk : (ks.map D.int)[i]? = some (.int ks[i]) := by rw [List.getElem?_map, List.getElem?_eq_getElem hi]; rfl
        obtain ⟨k, v, e1, e2, h⟩ := hfs i _ d hk e
        exact ⟨k, v, by rw [← D.int.inj e1]; exact List.getElem?_eq_getElem hi, e2, h⟩) hfl
      exact hq _ _ (by omega) ⟨r, rfl, hr⟩
  · obtain ⟨rs2, rfl, hrs2⟩ := rowsF_of hes hel
    rw [List.length_map, erl] at hel
    exact ⟨by decide, p rs2 n4 ⟨⟨k1, k8⟩, kb, by omega, hrs2⟩ hel (by omega)⟩

theorem sc_law_ringed : FnScope ["state", "scope", "spots_here", "first", "second", "rows_here", "one", "other", "lap", "at", "spot", "size_here"] ["state", "scope"] (defScope s_law_ringed) := ⟨rfl, rfl, rfl, by decide +kernel, rfl, by decide +kernel, by decide +kernel⟩
theorem ok_law_ringed (T : Txt K mg cs tk0) (D : DefAt K mg "_law_ringed" s_law_ringed ["state", "scope"]) (c_law_mixed : Has P w K mg base CX0 2 "_law_mixed" ["state", "several"] (sp0 K TT ds_law_mixed)) (c_law_put : Has P w K mg base CX0 1 "_law_put" ["row", "spot", "item"] (sp0 K TT ds_law_put)) : Has P w K mg base CX0 3 "_law_ringed" ["state", "scope"] (sp0 K TT ds_law_ringed) := by
  obtain ⟨f, fd, F, hm, hk, hb⟩ := D
  obtain ⟨_, _, c_law_mixed_ok, c_law_mixed_m, c_law_mixed_k, c_law_mixed_b⟩ := c_law_mixed
  obtain ⟨_, _, c_law_put_ok, c_law_put_m, c_law_put_k, c_law_put_b⟩ := c_law_put
  refine ⟨f, fd, F.okD sc_law_ringed (len_law_ringed) (fun S cdv A outer s H E hr => ?_), hm, hk, hb⟩
  refine ⟨_, _, (pss_cons (ps_setLc (i := 2) (own := [("spot", 10), ("size_here", 11)]) (g := gTup _ 2 (gCons (gName 10) (gCons (gName 11) gNil))) rfl sc_law_ringed.nd rfl rfl (sw_true rfl rfl rfl (by decide +kernel)) (RZ.pi_enumA (by rfl) T.n_enumerate (pa_cons (pe_dget (hu_of hr) (pv 1) pe_str (fun _ _ => rfl)) pa_nil)) (blkOk_by (N := ["state", "scope", "spots_here", "first", "second", "rows_here", "one", "other", "lap", "at", "spot", "size_here"]) (own := [("spot", 10), ("size_here", 11)]) (sc := defScope s_law_ringed) (by decide +kernel)) (fun _ _ _ _ _ => (pg_tup rfl (pgs_cons (pg_name (i := 10) sc_law_ringed.nd rfl (by first | exact Or.inl rfl | exact Or.inr rfl)) (pgs_cons (pg_name (i := 11) sc_law_ringed.nd rfl (by first | exact Or.inl rfl | exact Or.inr rfl)) pgs_nil)))) (fun _ _ _ _ _ => (pts_one (pt_cmpR op_gt (pv 11) pe_int (nomark _)))) (fun _ _ _ _ _ => (pv 10)))
      (pss_cons (ps_if (PW.pt (pw_or (pt_cmpR op_lt (pe_callB call_lenU (by rfl) T.n_len (by decide +kernel) (pa_cons (pv 2) pa_nil)) pe_int (nomark _)) (pw_or1 (pt_cmpR op_lt (pe_callB call_lenU (by rfl) T.n_len (by decide +kernel) (pa_cons (pe_dget (hu_of hr) (pv 1) pe_str (fun _ _ => rfl)) pa_nil)) pe_int (nomark _))))) (pss_one (ps_ret (pv 1))) pss_nil)
      (pss_cons (ps_asg (pe_slice sl_U (pe_call c_law_mixed_ok (hr.mono (by decide)) rfl c_law_mixed_m c_law_mixed_k c_law_mixed_b .nil pass0 (pa_cons (pv 0) (pa_cons (pv 2) pa_nil))) po_none (po_some pe_int)) (pg_lst rfl (pgs_cons (pg_name (i := 6) sc_law_ringed.nd rfl (by first | exact Or.inl rfl | exact Or.inr rfl)) (pgs_cons (pg_name (i := 7) sc_law_ringed.nd rfl (by first | exact Or.inl rfl | exact Or.inr rfl)) pgs_nil))))
      (pss_cons (ps_set (i := 3) sc_law_ringed.nd rfl (by first | exact Or.inl rfl | exact Or.inr rfl) (pe_slice sl_U (pe_call c_law_mixed_ok (hr.mono (by decide)) rfl c_law_mixed_m c_law_mixed_k c_law_mixed_b .nil pass0 (pa_cons (pv 0) (pa_cons (RZ.pe_listRng (by rfl) T.n_list (by rfl) T.n_range (pa_cons (pe_ix ix_seq (pe_dget (hu_of hr) (pv 1) pe_str (fun _ _ => rfl)) (pv 6) (fun _ _ => rfl)) pa_nil)) pa_nil))) po_none (po_some pe_int)))
      (pss_cons (ps_set (i := 4) sc_law_ringed.nd rfl (by first | exact Or.inl rfl | exact Or.inr rfl) (pe_slice sl_U (pe_call c_law_mixed_ok (hr.mono (by decide)) rfl c_law_mixed_m c_law_mixed_k c_law_mixed_b .nil pass0 (pa_cons (pv 0) (pa_cons (RZ.pe_listRng (by rfl) T.n_list (by rfl) T.n_range (pa_cons (pe_ix ix_seq (pe_dget (hu_of hr) (pv 1) pe_str (fun _ _ => rfl)) (pv 7) (fun _ _ => rfl)) pa_nil)) pa_nil))) po_none (po_some pe_int)))
      (pss_cons (ps_set (i := 5) sc_law_ringed.nd rfl (by first | exact Or.inl rfl | exact Or.inr rfl) (pe_callTy call_rListU (by rfl) T.n_list (by decide +kernel) (pa_cons (pe_dget (hu_of hr) (pv 1) pe_str (fun _ _ => rfl)) pa_nil)))
      (pss_cons (ps_for PassesOwn.never rfl (RZ.pi_enumA (by rfl) T.n_enumerate (pa_cons (pe_slice sl_U (pe_call c_law_mixed_ok (hr.mono (by decide)) rfl c_law_mixed_m c_law_mixed_k c_law_mixed_b .nil pass0 (pa_cons (pv 0) (pa_cons (RZ.pe_listRng (by rfl) T.n_list (by rfl) T.n_range (pa_cons (pe_callB call_lenU (by rfl) T.n_len (by decide +kernel) (pa_cons (pv 5) pa_nil)) pa_nil)) pa_nil))) po_none (po_some pe_int)) pa_nil)) (pg_tup rfl (pgs_cons (pg_name (i := 8) sc_law_ringed.nd rfl (by first | exact Or.inl rfl | exact Or.inr rfl)) (pgs_cons (pg_name (i := 9) sc_law_ringed.nd rfl (by first | exact Or.inl rfl | exact Or.inr rfl)) pgs_nil))) (pss_one (ps_asg (pe_call c_law_put_ok (hr.mono (by decide)) rfl c_law_put_m c_law_put_k c_law_put_b .nil pass0 (pa_cons (pe_call c_law_put_ok (hr.mono (by decide)) rfl c_law_put_m c_law_put_k c_law_put_b .nil pass0 (pa_cons (pe_ix ix_seq (pv 5) (pv 9) (fun _ _ => rfl)) (pa_cons (pv 6) (pa_cons (pe_ix ix_seq (pv 3) (pe_op op_fdivN (pv 8) pe_int) (fun _ _ => rfl)) pa_nil)))) (pa_cons (pv 7) (pa_cons (pe_ix ix_seq (pv 4) (pe_op op_modN (pe_callTy call_rInt1 (by rfl) T.n_int (by decide +kernel) (pa_cons (pv 8) pa_nil)) pe_int) (fun _ _ => rfl)) pa_nil)))) (pg_sub (pv 5) (pv 9) set_list))))
      (pss_one (ps_ret (pe_disp (pps_cons pe_str (pe_dget (hu_of hr) (pv 1) pe_str (fun _ _ => rfl)) (pps_cons pe_str (pe_callTy call_tupU (by rfl) T.n_tuple (by decide +kernel) (pa_cons (pv 5) pa_nil)) pps_nil)) (by rfl) (by rfl) (fun z => by cases z) (by decide))))))))))),
    (rds_seq (rds_set (rd_lc (rdj_of (rdi_enum (rda_cons (rd_dget (rd_var (i := 1)) rd_str) rda_nil))) (rdg_two (vs := [10, 11]) (by decide) (by decide)) (rdt_test (rd_op o2_cmp (rd_var (i := 11)) rd_int)) (rd_var (i := 10))))
      (rds_seq (rds_if (rdt_or (rdt_test (rd_op o2_cmp (rd_cb cal_len (rda_cons (rd_var (i := 2)) rda_nil)) rd_int)) (rdt_test (rd_op o2_cmp (rd_cb cal_len (rda_cons (rd_dget (rd_var (i := 1)) rd_str) rda_nil)) rd_int))) (rds_ret (rd_var (i := 1))) rds_next)
      (rds_seq (rds_asgG (rd_sl (rd_call0 (E := E0) (rda_st (i := 0) (rda_cons (rd_var (i := 2)) rda_nil))) rdo_none (rdo_some rd_int)) (rdg_twoL (vs := [6, 7]) (by decide) (by decide)))
      (rds_seq (rds_set (rd_sl (rd_call0 (E := E0) (rda_st (i := 0) (rda_cons (rd_listRng (rda_cons (rd_op o2_ix (rd_dget (rd_var (i := 1)) rd_str) (rd_var (i := 6))) rda_nil)) rda_nil))) rdo_none (rdo_some rd_int)))
      (rds_seq (rds_set (rd_sl (rd_call0 (E := E0) (rda_st (i := 0) (rda_cons (rd_listRng (rda_cons (rd_op o2_ix (rd_dget (rd_var (i := 1)) rd_str) (rd_var (i := 7))) rda_nil)) rda_nil))) rdo_none (rdo_some rd_int)))
      (rds_seq (rds_setO (rdn_list (rd_dget (rd_var (i := 1)) rd_str)))
      (rds_seq (rds_for (rdi_enum (rda_cons (rd_sl (rd_call0 (E := E0) (rda_st (i := 0) (rda_cons (rd_listRng (rda_cons (rd_lenO (i := 5)) rda_nil)) rda_nil))) rdo_none (rdo_some rd_int)) rda_nil)) (rdg_two (vs := [8, 9]) (by decide) (by decide)) (rds_putO (i := 5) (rd_call0 (E := E0) (rda_cons (rd_call0 (E := E0) (rda_cons (rd_ixO (i := 5) (rd_var (i := 9))) (rda_cons (rd_var (i := 6)) (rda_cons (rd_op o2_ix (rd_var (i := 3)) (rd_op o2_int (rd_var (i := 8)) rd_int)) rda_nil)))) (rda_cons (rd_var (i := 7)) (rda_cons (rd_op o2_ix (rd_var (i := 4)) (rd_op o2_int (rd_cb cal_int (rda_cons (rd_var (i := 8)) rda_nil)) rd_int)) rda_nil)))) (rd_var (i := 9))))
      (rds_ret (rd_disp (.cons rd_str (rd_dget (rd_var (i := 1)) rd_str) (.cons rd_str (rd_tupO (i := 5)) .nil))))))))))), ?_⟩
  rintro ss n P ⟨ks, rss, rfl, t, hn, p⟩
  have hn' : n + 2000 < 1099511627776 := hn
  have kl := t.kl
  have rl := t.rl
  have kl' : (ks.map D.int).length = ks.length := List.length_map ..
  have rl' : (rss.map tupI).length = rss.length := List.length_map ..
  have here : P (.dic [.inr "kinds", .inr "rows"] [.tup (ks.map D.int), .tup (rss.map tupI)]) n := p rss n t rfl (by omega)
  unfold dicT
  walk_at "dl"
  have el : (enumD 0 (ks.map D.int)).length = ks.length := by rw [enumD_len, kl']
  refine ⟨by omega, compM_few (good := fun d => ∃ (m : Nat) (k : Int), d = .int (m : Nat) ∧ ks[m]? = some k ∧ 1 < k) _ _ _ (fun x hx q hq => ?_) fun ds hdl hds => ?_⟩
  · obtain ⟨i, hi⟩ := List.mem_iff_getElem?.mp hx
    rw [enumD_get, List.getElem?_map] at hi
    obtain ⟨w, hw, rfl⟩ := Option.map_eq_some_iff.mp hi
    obtain ⟨k, hk, rfl⟩ := Option.map_eq_some_iff.mp hw
    show (match decide ((1 : Int) < k) with | true => _ | false => _ : Prop)
    by_cases h1 : (1 : Int) < k
    · rw [decide_eq_true h1]
      exact hq _ fun d e => ⟨i, k, by rw [← Option.some.inj e, Nat.zero_add], hk, h1⟩
    · rw [decide_eq_false h1]
      exact hq _ fun d e => nomatch e
  · by_cases h2 : ((ds.length : Int)) < 2
    · rw [decide_eq_true h2]
      exact here
    rw [decide_eq_false h2, rl']
    by_cases h4 : (rss.length : Int) < 4
    · rw [decide_eq_true h4]
      exact here
    rw [decide_eq_false h4]
    show ds_law_mixed _ _ _
    refine ⟨ds, .inl rfl, by omega, lim (by omega), fun ys n1 hp hn1 => ?_⟩
    obtain ⟨d1, d2, r, rfl⟩ := two_items (ys := ys) (by rw [hp.length_eq]; omega)
    obtain ⟨m1, k1, rfl, hk1, g1⟩ := hds d1 (hp.mem_iff.mp (by simp))
    obtain ⟨m2, k2, rfl, hk2, g2⟩ := hds d2 (hp.mem_iff.mp (by simp))
    have b1 := t.kb k1 (List.mem_of_getElem? hk1)
    have b2 := t.kb k2 (List.mem_of_getElem? hk2)
    have cut2 : ∀ (a b : D) (r : List D), cutD (a :: b :: r) none (some 2) = [a, b] := fun a b r => by
      rw [show (2 : Int) = ((2 : Nat) : Int) from rfl, cut_to]
      rfl
    have m1k : m1 < ks.length := (List.getElem?_eq_some_iff.mp hk1).1
    have m2k : m2 < ks.length := (List.getElem?_eq_some_iff.mp hk2).1
    dsimp only
    rw [cut2]
    dsimp only
    refine ⟨.int k1, at_nat (by rw [List.getElem?_map, hk1]; rfl), k1, rfl, by omega, by omega, ?_⟩
    show ds_law_mixed _ _ _
    refine ⟨_, .inl rfl, by rw [natsD_len]; omega, lim (by omega), fun ys1 n2 hp1 hn2 => ?_⟩
    rw [natsD_len] at hn2
    obtain ⟨os1, rfl, ol1, ob1⟩ := mixed_nats hp1
    obtain ⟨f1, f2, r1, rfl⟩ := two_items (ys := os1) (by omega)
    dsimp only
    rw [List.map_cons, List.map_cons, cut2]
    refine ⟨.int k2, at_nat (by rw [List.getElem?_map, hk2]; rfl), k2, rfl, by omega, by omega, ?_⟩
    show ds_law_mixed _ _ _
    refine ⟨_, .inl rfl, by rw [natsD_len]; omega, lim (by omega), fun ys2 n3 hp2 hn3 => ?_⟩
    rw [natsD_len] at hn3
    obtain ⟨os2, rfl, ol2, ob2⟩ := mixed_nats hp2
    obtain ⟨s1, s2, r2, rfl⟩ := two_items (ys := os2) (by omega)
    dsimp only
    rw [List.map_cons, List.map_cons, cut2]
    simp only [seqD]
    refine ⟨_, rfl, by omega, by omega, ?_⟩
    rw [rl', Int.toNat_natCast]
    show ds_law_mixed _ _ _
    refine ⟨_, .inl rfl, by rw [natsD_len]; omega, lim (by omega), fun ys3 n4 hp3 hn4 => ?_⟩
    rw [natsD_len] at hn4
    obtain ⟨os3, rfl, ol3, ob3⟩ := mixed_nats hp3
    dsimp only
    rw [show cutD (os3.map D.int) none (some 4) = (os3.take 4).map D.int by rw [show (4 : Int) = ((4 : Nat) : Int) from rfl, cut_to, List.map_take]]
    have e1 := ob1 f1 (by simp)
    have e2 := ob1 f2 (by simp)
    have e3 := ob2 s1 (by simp)
    have e4 := ob2 s2 (by simp)
    refine ⟨fun i ρ n' => n' = n4 ∧ ∃ (rs : List (List Int)) (u8 u9 u10 u11 : SV), ρ = [.st, .d (.dic [.inr "kinds", .inr "rows"] [.tup (ks.map D.int), .tup (rss.map tupI)]), .d (.lst ds), .d (.lst [.int f1, .int f2]), .d (.lst [.int s1, .int s2]), .ol (rs.map tupI), .d (.int (m1 : Nat)), .d (.int (m2 : Nat)), u8, u9, u10, u11] ∧ Full ks rs ∧ rs.length = rss.length, ⟨rfl, rss, _, _, _, _, rfl, t, rfl⟩, ?_, ?_⟩
    · rintro i x ρ n' hx ⟨rfl, rs, u8, u9, u10, u11, rfl, f, hl⟩
      rw [enumD_get, List.getElem?_map] at hx
      obtain ⟨w, hw, rfl⟩ := Option.map_eq_some_iff.mp hx
      obtain ⟨a, ha, rfl⟩ := Option.map_eq_some_iff.mp hw
      have hi4 : i < 4 := by
        have := (List.getElem?_eq_some_iff.mp ha).1
        rw [List.length_take] at this
        omega
      have ab := ob3 a (List.mem_of_mem_take (List.mem_of_getElem? ha))
      obtain ⟨a, rfl⟩ := Int.eq_ofNat_of_zero_le ab.1
      have hal : a < rs.length := by omega
      clear hx hw
      show _
      walk_at "dl"
      have fr := f.rf _ (List.getElem_mem hal)
      have ra : (rs.map tupI)[a]? = some (tupI rs[a]) := by rw [List.getElem?_map, List.getElem?_eq_getElem hal]; rfl
      generalize rs[a] = r at fr ra
      obtain ⟨fv, hf, f0, f1'⟩ : ∃ fv, atD [.int f1, .int f2] ((i : Int).fdiv 2) = some (.int fv) ∧ 0 ≤ fv ∧ fv < k1 := by
        match i, hi4 with
        | 0, _ => exact ⟨f1, rfl, by omega, by omega⟩
        | 1, _ => exact ⟨f1, rfl, by omega, by omega⟩
        | 2, _ => exact ⟨f2, rfl, by omega, by omega⟩
        | 3, _ => exact ⟨f2, rfl, by omega, by omega⟩
      obtain ⟨sv, hs, s0, s1'⟩ : ∃ sv, atD [.int s1, .int s2] ((i : Int).fmod 2) = some (.int sv) ∧ 0 ≤ sv ∧ sv < k2 := by
        match i, hi4 with
        | 0, _ => exact ⟨s1, rfl, by omega, by omega⟩
        | 1, _ => exact ⟨s2, rfl, by omega, by omega⟩
        | 2, _ => exact ⟨s1, rfl, by omega, by omega⟩
        | 3, _ => exact ⟨s2, rfl, by omega, by omega⟩
      have rl1 : (r.map D.int).length = ks.length := by rw [List.length_map, fr.len]
      refine ⟨tupI r, at_nat ra, ⟨by omega, by omega⟩, .int fv, hf, ?_⟩
      show ds_law_put _ _ _
      refine ⟨r.map D.int, m1, .int fv, rfl, by omega, by omega, ?_⟩
      rw [put_at (by omega)]
      refine ⟨by decide, .int sv, hs, ?_⟩
      show ds_law_put _ _ _
      refine ⟨(r.map D.int).set m1 (.int fv), m2, .int sv, rfl, by rw [List.length_set]; omega, by rw [List.length_set]; omega, ?_⟩
      rw [put_at (by rw [List.length_set]; omega)]
      have es : (rs.map tupI).set a (.tup (((r.map D.int).set m1 (.int fv)).set m2 (.int sv))) = (rs.set a ((r.set m1 fv).set m2 sv)).map tupI := by
        rw [List.map_set]
        unfold tupI
        rw [List.map_set, List.map_set]
      refine ⟨a, ix_nat (by rw [List.length_map]; exact hal), rfl, ?_⟩
      rw [es]
      exact ⟨_, _, _, _, _, rfl, f.put ((fr.set hk1 f0 f1').set hk2 s0 s1'), by rw [List.length_set]; exact hl⟩
    · rintro ρ n' ⟨rfl, rs, u8, u9, u10, u11, rfl, f, hl⟩
      walk_at "dl"
      exact ⟨by decide, p rs n' f hl (by omega)⟩

theorem sc_law_near : FnScope ["state", "scope", "rows_here", "lap", "at", "spot"] ["state", "scope"] (defScope s_law_near) := ⟨rfl, rfl, rfl, by decide +kernel, rfl, by decide +kernel, by decide +kernel⟩
theorem ok_law_near (T : Txt K mg cs tk0) (D : DefAt K mg "_law_near" s_law_near ["state", "scope"]) (c_law_draw : Has P w K mg base CX0 1 "_law_draw" ["state", "size_here"] (sp0 K TT ds_law_draw)) (c_law_put : Has P w K mg base CX0 1 "_law_put" ["row", "spot", "item"] (sp0 K TT ds_law_put)) : Has P w K mg base CX0 2 "_law_near" ["state", "scope"] (sp0 K TT ds_law_near) := by
  obtain ⟨f, fd, F, hm, hk, hb⟩ := D
  obtain ⟨_, _, c_law_draw_ok, c_law_draw_m, c_law_draw_k, c_law_draw_b⟩ := c_law_draw
  obtain ⟨_, _, c_law_put_ok, c_law_put_m, c_law_put_k, c_law_put_b⟩ := c_law_put
  refine ⟨f, fd, F.okD sc_law_near (len_law_near) (fun S cdv A outer s H E hr => ?_), hm, hk, hb⟩
  refine ⟨_, _, (pss_cons (ps_set (i := 2) sc_law_near.nd rfl (by first | exact Or.inl rfl | exact Or.inr rfl) (pe_callTy call_rListU (by rfl) T.n_list (by decide +kernel) (pa_cons (pe_dget (hu_of hr) (pv 1) pe_str (fun _ _ => rfl)) pa_nil)))
      (pss_cons (ps_for PassesOwn.never rfl (pi_range1 (by rfl) T.n_range (pa_cons (pe_op op_addU pe_int (pe_call c_law_draw_ok (hr.mono (by decide)) rfl c_law_draw_m c_law_draw_k c_law_draw_b .nil pass0 (pa_cons (pv 0) (pa_cons pe_int pa_nil)))) pa_nil)) (pg_name (i := 3) sc_law_near.nd rfl (by first | exact Or.inl rfl | exact Or.inr rfl)) (pss_cons (ps_par (i := 4) (j := 5) rfl sc_law_near.nd rfl rfl (by decide) rfl rfl (pa_cons (pe_call c_law_draw_ok (hr.mono (by decide)) rfl c_law_draw_m c_law_draw_k c_law_draw_b .nil pass0 (pa_cons (pv 0) (pa_cons (pe_callB call_lenU (by rfl) T.n_len (by decide +kernel) (pa_cons (pv 2) pa_nil)) pa_nil))) (pa_cons (pe_call c_law_draw_ok (hr.mono (by decide)) rfl c_law_draw_m c_law_draw_k c_law_draw_b .nil pass0 (pa_cons (pv 0) (pa_cons (pe_callB call_lenU (by rfl) T.n_len (by decide +kernel) (pa_cons (pe_dget (hu_of hr) (pv 1) pe_str (fun _ _ => rfl)) pa_nil)) pa_nil))) pa_nil)) (by rfl))
      (pss_one (ps_if (pt_cmpR op_notN (pe_ix ix_seq (pe_ix ix_seq (pv 2) (pv 4) (fun _ _ => rfl)) (pv 5) (fun _ _ => rfl)) pe_non (nomark _)) (pss_one (ps_asg (pe_call c_law_put_ok (hr.mono (by decide)) rfl c_law_put_m c_law_put_k c_law_put_b .nil pass0 (pa_cons (pe_ix ix_seq (pv 2) (pv 4) (fun _ _ => rfl)) (pa_cons (pv 5) (pa_cons (pe_call c_law_draw_ok (hr.mono (by decide)) rfl c_law_draw_m c_law_draw_k c_law_draw_b .nil pass0 (pa_cons (pv 0) (pa_cons (pe_ix ix_seq (pe_dget (hu_of hr) (pv 1) pe_str (fun _ _ => rfl)) (pv 5) (fun _ _ => rfl)) pa_nil))) pa_nil)))) (pg_sub (pv 2) (pv 4) set_list))) pss_nil))))
      (pss_one (ps_ret (pe_disp (pps_cons pe_str (pe_dget (hu_of hr) (pv 1) pe_str (fun _ _ => rfl)) (pps_cons pe_str (pe_callTy call_tupU (by rfl) T.n_tuple (by decide +kernel) (pa_cons (pv 2) pa_nil)) pps_nil)) (by rfl) (by rfl) (fun z => by cases z) (by decide)))))),
    (rds_seq (rds_setO (rdn_list (rd_dget (rd_var (i := 1)) rd_str)))
      (rds_seq (rds_for (rdi_range1 (rda_cons (rd_op o2_add rd_int (rd_call0 (E := E0) (rda_st (i := 0) (rda_cons rd_int rda_nil)))) rda_nil)) (rdg_name (vs := [3]) (by decide)) (rds_seq (rds_par (i := 4) (j := 5) (rda_cons (rd_call0 (E := E0) (rda_st (i := 0) (rda_cons (rd_lenO (i := 2)) rda_nil))) (rda_cons (rd_call0 (E := E0) (rda_st (i := 0) (rda_cons (rd_cb cal_len (rda_cons (rd_dget (rd_var (i := 1)) rd_str) rda_nil)) rda_nil))) rda_nil)))
      (rds_if (rdt_test (rd_op o2_notN (rd_op o2_ix (rd_ixO (i := 2) (rd_var (i := 4))) (rd_var (i := 5))) rd_non)) (rds_putO (i := 2) (rd_call0 (E := E0) (rda_cons (rd_ixO (i := 2) (rd_var (i := 4))) (rda_cons (rd_var (i := 5)) (rda_cons (rd_call0 (E := E0) (rda_st (i := 0) (rda_cons (rd_op o2_ix (rd_dget (rd_var (i := 1)) rd_str) (rd_var (i := 5))) rda_nil))) rda_nil)))) (rd_var (i := 4))) rds_next)))
      (rds_ret (rd_disp (.cons rd_str (rd_dget (rd_var (i := 1)) rd_str) (.cons rd_str (rd_tupO (i := 2)) .nil)))))), ?_⟩
  rintro ss n P ⟨ks, rss, rfl, t, hn, p⟩
  have hn' : n + 2000 < 1099511627776 := hn
  have kl := t.kl
  have rl := t.rl
  have kl' : (ks.map D.int).length = ks.length := List.length_map ..
  unfold dicT
  walk_at "dl"
  simp only [seqD]
  show ds_law_draw _ _ _
  refine ⟨2, rfl, by decide, by decide, lim (by omega), fun c n1 r0 r1 hn1 => ?_⟩
  obtain ⟨c, rfl⟩ := Int.eq_ofNat_of_zero_le r0
  show _ ∧ _ ∧ ∃ I, _
  refine ⟨by omega, by omega, fun i ρ n' => n' ≤ n1 + 3 * i ∧ ∃ (rs : List (List Int)) (u3 u4 u5 : SV), ρ = [.st, .d (.dic [.inr "kinds", .inr "rows"] [.tup (ks.map D.int), .tup (rss.map tupI)]), .ol (rs.map tupI), u3, u4, u5] ∧ Full ks rs ∧ rs.length = rss.length, ⟨by omega, rss, _, _, _, rfl, t, rfl⟩, ?_, ?_⟩
  · rintro i x ρ n' hx ⟨hn2, rs, u3, u4, u5, rfl, f, hl⟩
    have hi := (List.getElem?_eq_some_iff.mp hx).1
    rw [rangeA_len] at hi
    clear hx
    walk_at "dl"
    show ds_law_draw _ _ _
    rw [List.length_map]
    refine ⟨_, rfl, by omega, by omega, lim (by omega), fun a n3 a0 a1 hn3 => ?_⟩
    obtain ⟨a, rfl⟩ := Int.eq_ofNat_of_zero_le a0
    show ds_law_draw [.st, .d (.int ((ks.map D.int).length : Int))] _ _
    rw [kl']
    refine ⟨_, rfl, by omega, by omega, lim (by omega), fun s n4 s0 s1 hn4 => ?_⟩
    obtain ⟨s, rfl⟩ := Int.eq_ofNat_of_zero_le s0
    have ha : a < rs.length := by omega
    have hs : s < ks.length := by omega
    have fr := f.rf _ (List.getElem_mem ha)
    have ra : (rs.map tupI)[a]? = some (tupI rs[a]) := by rw [List.getElem?_map, List.getElem?_eq_getElem ha]; rfl
    generalize rs[a] = r at fr ra
    have hsr : s < r.length := by rw [fr.len]; exact hs
    have rs' : (r.map D.int)[s]? = some (.int r[s]) := by rw [List.getElem?_map, List.getElem?_eq_getElem hsr]; rfl
    have ksx : (ks.map D.int)[s]? = some (.int ks[s]) := by rw [List.getElem?_map, List.getElem?_eq_getElem hs]; rfl
    have kk := t.kb ks[s] (List.getElem_mem hs)
    have kx : ks[s]? = some ks[s] := List.getElem?_eq_getElem hs
    generalize ks[s] = k at ksx kk kx
    generalize r[s] = v at rs'
    refine ⟨tupI r, at_nat ra, ?_⟩
    show ∃ d, _ ∧ _
    refine ⟨.int v, at_nat rs', ?_⟩
    show _
    walk_at "dl"
    refine ⟨tupI r, at_nat ra, ?_⟩
    refine ⟨.int k, at_nat ksx, ?_⟩
    show ds_law_draw _ _ _
    refine ⟨k, rfl, by omega, by omega, lim (by omega), fun v2 n5 v0 v1 hn5 => ?_⟩
    show ds_law_put _ _ _
    refine ⟨r.map D.int, s, .int v2, rfl, by rw [List.length_map]; exact hsr, by rw [List.length_map, fr.len]; omega, ?_⟩
    refine ⟨a, ix_nat ha, ?_⟩
    have es : (rs.map tupI).set a (.tup ((r.map D.int).set s (.int v2))) = (rs.set a (r.set s v2)).map tupI := by
      rw [List.map_set]
      unfold tupI
      rw [List.map_set]
    rw [put_at (by rw [List.length_map]; exact hsr), es]
    refine ⟨by omega, rs.set a (r.set s v2), _, _, _, rfl, f.put (fr.set kx v0 v1), by rw [List.length_set]; exact hl⟩
  · rintro ρ n' ⟨hn2, rs, u3, u4, u5, rfl, f, hl⟩
    rw [rangeA_len] at hn2
    walk_at "dl"
    exact ⟨by decide, p rs n' f hl (by omega)⟩

theorem sc_law_wide : FnScope ["state", "most", "several", "wide", "kinds_here", "scope", "fashion", "many", "lap"] ["state", "most", "several", "wide"] (defScope s_law_wide) := ⟨rfl, rfl, rfl, by decide +kernel, rfl, by decide +kernel, by decide +kernel⟩
theorem ok_law_wide (T : Txt K mg cs tk0) (D : DefAt K mg "_law_wide" s_law_wide ["state", "most", "several", "wide"]) (c_law_draw : Has P w K mg base CX0 1 "_law_draw" ["state", "size_here"] (sp0 K TT ds_law_draw)) (c_law_pick : Has P w K mg base CX0 2 "_law_pick" ["state", "several"] (sp0 K TT ds_law_pick)) (c_law_any : Has P w K mg base CX0 2 "_law_any" ["state", "many", "kinds_here"] (sp0 K TT ds_law_any)) (c_law_ringed : Has P w K mg base CX0 3 "_law_ringed" ["state", "scope"] (sp0 K TT ds_law_ringed)) (c_law_true : Has P w K mg base CX0 3 "_law_true" ["state", "many", "kinds_here"] (sp0 K TT ds_law_true)) (c_law_near : Has P w K mg base CX0 2 "_law_near" ["state", "scope"] (sp0 K TT ds_law_near)) : Has P w K mg base CX0 4 "_law_wide" ["state", "most", "several", "wide"] (sp0 K TT ds_law_wide) := by
  obtain ⟨f, fd, F, hm, hk, hb⟩ := D
  obtain ⟨_, _, c_law_draw_ok, c_law_draw_m, c_law_draw_k, c_law_draw_b⟩ := c_law_draw
  obtain ⟨_, _, c_law_pick_ok, c_law_pick_m, c_law_pick_k, c_law_pick_b⟩ := c_law_pick
  obtain ⟨_, _, c_law_any_ok, c_law_any_m, c_law_any_k, c_law_any_b⟩ := c_law_any
  obtain ⟨_, _, c_law_ringed_ok, c_law_ringed_m, c_law_ringed_k, c_law_ringed_b⟩ := c_law_ringed
  obtain ⟨_, _, c_law_true_ok, c_law_true_m, c_law_true_k, c_law_true_b⟩ := c_law_true
  obtain ⟨_, _, c_law_near_ok, c_law_near_m, c_law_near_k, c_law_near_b⟩ := c_law_near
  refine ⟨f, fd, F.okD sc_law_wide (len_law_wide) (fun S cdv A outer s H E hr => ?_), hm, hk, hb⟩
  refine ⟨_, _, (pss_cons (ps_par (i := 6) (j := 7) rfl sc_law_wide.nd rfl rfl (by decide) rfl rfl (pa_cons (pe_call c_law_draw_ok (hr.mono (by decide)) rfl c_law_draw_m c_law_draw_k c_law_draw_b .nil pass0 (pa_cons (pv 0) (pa_cons pe_int pa_nil))) (pa_cons (pe_op op_addU pe_int (pe_call c_law_draw_ok (hr.mono (by decide)) rfl c_law_draw_m c_law_draw_k c_law_draw_b .nil pass0 (pa_cons (pv 0) (pa_cons (pv 1) pa_nil)))) pa_nil)) (by rfl))
      (pss_cons (ps_set (i := 4) sc_law_wide.nd rfl (by first | exact Or.inl rfl | exact Or.inr rfl) (pe_callTy call_tupU (by rfl) T.n_tuple (by decide +kernel) (pa_cons (pe_lc (own := [("lap", 8)]) (g := gName 8) rfl sc_law_wide.nd (pi_range1 (by rfl) T.n_range (pa_cons (pe_op op_addU pe_int (pe_call c_law_draw_ok (hr.mono (by decide)) rfl c_law_draw_m c_law_draw_k c_law_draw_b .nil pass0 (pa_cons (pv 0) (pa_cons (pv 3) pa_nil)))) pa_nil)) (blkOk_by (N := ["state", "most", "several", "wide", "kinds_here", "scope", "fashion", "many", "lap"]) (own := [("lap", 8)]) (sc := defScope s_law_wide) (by decide +kernel)) (fun _ _ _ _ _ => (pg_name (i := 8) sc_law_wide.nd rfl (by first | exact Or.inl rfl | exact Or.inr rfl))) (fun _ _ _ _ _ => pts_nil) (fun _ _ _ _ _ => (pe_call c_law_pick_ok (hr.mono (by decide)) rfl c_law_pick_m c_law_pick_k c_law_pick_b .nil pass0 (pa_cons (pv 0) (pa_cons (pv 2) pa_nil))))) pa_nil)))
      (pss_cons (ps_if (pt_cmpR (op_eqU hr.units) (pv 6) pe_int (nomark _)) (pss_one (ps_ret (pe_call c_law_any_ok (hr.mono (by decide)) rfl c_law_any_m c_law_any_k c_law_any_b .nil pass0 (pa_cons (pv 0) (pa_cons (pv 7) (pa_cons (pv 4) pa_nil)))))) pss_nil)
      (pss_cons (ps_if (pt_cmpR op_lt (pv 6) pe_int (nomark _)) (pss_one (ps_ret (pe_call c_law_ringed_ok (hr.mono (by decide)) rfl c_law_ringed_m c_law_ringed_k c_law_ringed_b .nil pass0 (pa_cons (pv 0) (pa_cons (pe_call c_law_true_ok (hr.mono (by decide)) rfl c_law_true_m c_law_true_k c_law_true_b .nil pass0 (pa_cons (pv 0) (pa_cons (pe_callB (call_rMax2 rfl) (by rfl) T.n_max (by decide +kernel) (pa_cons (pv 7) (pa_cons pe_int pa_nil))) (pa_cons (pv 4) pa_nil)))) pa_nil))))) pss_nil)
      (pss_cons (ps_set (i := 5) sc_law_wide.nd rfl (by first | exact Or.inl rfl | exact Or.inr rfl) (pe_call c_law_true_ok (hr.mono (by decide)) rfl c_law_true_m c_law_true_k c_law_true_b .nil pass0 (pa_cons (pv 0) (pa_cons (pv 7) (pa_cons (pv 4) pa_nil)))))
      (pss_one (ps_ret (pe_ifExp (pt_cmpR op_lt (pv 6) pe_int (nomark _)) (pv 5) (pe_call c_law_near_ok (hr.mono (by decide)) rfl c_law_near_m c_law_near_k c_law_near_b .nil pass0 (pa_cons (pv 0) (pa_cons (pv 5) pa_nil))))))))))),
    (rds_seq (rds_par (i := 6) (j := 7) (rda_cons (rd_call0 (E := E0) (rda_st (i := 0) (rda_cons rd_int rda_nil))) (rda_cons (rd_op o2_add rd_int (rd_call0 (E := E0) (rda_st (i := 0) (rda_cons (rd_var (i := 1)) rda_nil)))) rda_nil)))
      (rds_seq (rds_set (rd_cb cal_tuple (rda_cons (rd_lc (rdj_of (rdi_range1 (rda_cons (rd_op o2_add rd_int (rd_call0 (E := E0) (rda_st (i := 0) (rda_cons (rd_var (i := 3)) rda_nil)))) rda_nil))) (rdg_name (vs := [8]) (by decide)) rdt_yes (rd_call0 (E := E0) (rda_st (i := 0) (rda_cons (rd_var (i := 2)) rda_nil)))) rda_nil)))
      (rds_seq (rds_if (rdt_test (rd_op o2_eq (rd_var (i := 6)) rd_int)) (rds_ret (rd_call0 (E := E0) (rda_st (i := 0) (rda_cons (rd_var (i := 7)) (rda_cons (rd_var (i := 4)) rda_nil))))) rds_next)
      (rds_seq (rds_if (rdt_test (rd_op o2_cmp (rd_var (i := 6)) rd_int)) (rds_ret (rd_call0 (E := E0) (rda_st (i := 0) (rda_cons (rd_call0 (E := E0) (rda_st (i := 0) (rda_cons (rd_cb cal_max2 (rda_cons (rd_var (i := 7)) (rda_cons rd_int rda_nil))) (rda_cons (rd_var (i := 4)) rda_nil)))) rda_nil)))) rds_next)
      (rds_seq (rds_set (rd_call0 (E := E0) (rda_st (i := 0) (rda_cons (rd_var (i := 7)) (rda_cons (rd_var (i := 4)) rda_nil)))))
      (rds_ret (rd_if (rdt_test (rd_op o2_cmp (rd_var (i := 6)) rd_int)) (rd_var (i := 5)) (rd_call0 (E := E0) (rda_st (i := 0) (rda_cons (rd_var (i := 5)) rda_nil)))))))))), ?_⟩
  rintro ss n P ⟨most, wide, sv, rfl, m1, m12, w1, w8, hsv, sl, sb, hn, p⟩
  have hn' : n + 5000 < 1099511627776 := hn
  have sl' : (sv.map D.int).length = sv.length := List.length_map ..
  have sp : 0 < sv.length := List.length_pos_iff.mpr hsv
  walk_at "dl"
  show ds_law_draw _ _ _
  refine ⟨7, rfl, by decide, by decide, lim (by omega), fun fa n1 f0 f7 hn1 => ?_⟩
  show ds_law_draw _ _ _
  refine ⟨most, rfl, by omega, by omega, lim (by omega), fun a n2 a0 a1 hn2 => ?_⟩
  obtain ⟨a, rfl⟩ := Int.eq_ofNat_of_zero_le a0
  show ds_law_draw [.st, .d (.int (wide : Int))] _ _
  refine ⟨wide, rfl, by omega, by omega, lim (by omega), fun c n3 c0 c1 hn3 => ?_⟩
  obtain ⟨c, rfl⟩ := Int.eq_ofNat_of_zero_le c0
  have erl : (rangeD 0 ((1 : Int) + (c : Int)).toNat).length = 1 + c := by rw [rangeA_len]; omega
  show _ ∧ _ ∧ _ ∧ _
  refine ⟨by omega, by omega, by omega, compM_gen (c := 1) (N := n3 + 10) (good := fun x d => d ∈ sv.map D.int) _ _ _ (by omega) (fun x hx m q hm hq => ?_) fun es n4 hn4 hel hes => ?_⟩
  · show ds_law_pick _ _ _
    exact ⟨_, .inr rfl, by omega, by omega, lim (by omega), fun d hd m' hm' => hq d m' (by omega) hd⟩
  obtain ⟨ks, rfl, hks⟩ := picks_of hes hel
  rw [List.length_map, erl] at hel
  rw [erl] at hn4
  have kb : ∀ k ∈ ks, 1 ≤ k ∧ k ≤ 6 := fun k hk => sb k (hks k hk)
  have fin : ∀ rss n', Full ks rss → rss.length ≤ max most 4 → n' ≤ n + 1000 → P (dicT (ks.map D.int) (rss.map tupI)) n' := fun rss n' f hr h => p ks rss n' f hr (by omega) hks h
  have em : (1 : Int) + ((a : Nat) : Int) = ((1 + a : Nat) : Int) := by omega
  show eqP id (.int fa) (.int 0) _
  rw [eqP_int]
  simp only [id]
  cases decide (fa = 0) with
  | true =>
    show ds_law_any [.st, .d (.int (1 + ((a : Nat) : Int))), .d (tupI ks)] n4 P
    rw [em]
    exact ⟨1 + a, ks, rfl, by omega, by omega, by omega, by omega, kb, lim (by omega), fun rss n5 f hr hn5 => fin rss n5 f (by omega) (by omega)⟩
  | false =>
    show (match decide (fa < 3) with | true => _ | false => _ : Prop)
    cases decide (fa < 3) with
    | true =>
      obtain ⟨mx, emx, mx1, mx2, mx3⟩ : ∃ mx : Nat, (if (4 : Int) > 1 + ((a : Nat) : Int) then (4 : Int) else 1 + ((a : Nat) : Int)) = (mx : Int) ∧ 1 ≤ mx ∧ mx ≤ 12 ∧ mx ≤ max most 4 := by
        refine ⟨max (1 + a) 4, ?_, by omega, by omega, by omega⟩
        split <;> omega
      show ds_law_true [.st, .d (.int (if (4 : Int) > 1 + ((a : Nat) : Int) then (4 : Int) else 1 + ((a : Nat) : Int))), .d (tupI ks)] n4 _
      rw [emx]
      refine ⟨mx, ks, rfl, mx1, mx2, by omega, by omega, kb, lim (by omega), fun rss n5 f hr hn5 => ?_⟩
      show ds_law_ringed _ _ _
      exact ⟨ks, rss, rfl, f, lim (by omega), fun rss' n6 f' hr' hn6 => fin rss' n6 f' (by omega) (by omega)⟩
    | false =>
      show ds_law_true [.st, .d (.int (1 + ((a : Nat) : Int))), .d (tupI ks)] n4 _
      rw [em]
      refine ⟨1 + a, ks, rfl, by omega, by omega, by omega, by omega, kb, lim (by omega), fun rss n5 f hr hn5 => ?_⟩
      show (match decide (fa < 5) with | true => _ | false => _ : Prop)
      cases decide (fa < 5) with
      | true => exact fin rss n5 f (by omega) (by omega)
      | false =>
        show ds_law_near _ _ _
        exact ⟨ks, rss, rfl, f, lim (by omega), fun rss' n6 f' hr' hn6 => fin rss' n6 f' (by omega) (by omega)⟩

theorem sc_law_bad_full : FnScope ["state", "scope", "rows_here", "told", "fashion", "at", "spot", "row"] ["state", "scope"] (defScope s_law_bad_full) := ⟨rfl, rfl, rfl, by decide +kernel, rfl, by decide +kernel, by decide +kernel⟩
theorem ok_law_bad_full {c9 : Addr} (T : Txt K mg cs tk0) (D : DefC K mg "_law_bad_full" s_law_bad_full ["state", "scope"] c9) (c_law_draw : Has P w K mg base CX0 1 "_law_draw" ["state", "size_here"] (sp0 K TT ds_law_draw)) (c_law_bad_table : Has P w K mg base CX0 3 "_law_bad_table" ["state"] (sp0 K TT ds_law_bad_table)) (c_law_put : Has P w K mg base CX0 1 "_law_put" ["row", "spot", "item"] (sp0 K TT ds_law_put)) (c_Table : HasI P w K mg base 6 cs.Table "kinds" "rows" (spI K TT cs.Table (ds_Table_init cs))) (DC : DefAt K mg "_law_caught" s_law_caught ["work"]) (MA : MakesAt base mg TT "_law_bad_full.<locals>.<lambda>" c9) : HasG P w K mg base CX0 11 "_law_bad_full" ["state", "scope"] (sp0 K TT (ds_law_bad_full K cs (LamOkD P w K mg base TT 20) (HeldD P w K mg base TT 5))) := by
  obtain ⟨f, fd, F, hm, hk, hb⟩ := D
  obtain ⟨_, _, c_law_draw_ok, c_law_draw_m, c_law_draw_k, c_law_draw_b⟩ := c_law_draw
  obtain ⟨_, _, c_law_bad_table_ok, c_law_bad_table_m, c_law_bad_table_k, c_law_bad_table_b⟩ := c_law_bad_table
  obtain ⟨_, _, c_law_put_ok, c_law_put_m, c_law_put_k, c_law_put_b⟩ := c_law_put
  obtain ⟨_, _, c_Table_ok, c_Table_mk, c_Table_b, c_Table_kb⟩ := c_Table
  refine ⟨f, fd, fnC_okD F sc_law_bad_full (len_law_bad_full _ _ _ _) (fun S A outer s H E hg hr => ?_), hm, hk, hb⟩
  refine ⟨_, _, (pss_cons (ps_set (i := 2) sc_law_bad_full.nd rfl (by first | exact Or.inl rfl | exact Or.inr rfl) (pe_dget (hu_of hr) (pv 1) pe_str (fun _ _ => rfl)))
      (pss_cons (ps_asg (pe_tup (pa_cons (pe_call c_law_draw_ok (hr.mono (by decide)) rfl c_law_draw_m c_law_draw_k c_law_draw_b .nil pass0 (pa_cons (pv 0) (pa_cons pe_int pa_nil))) (pa_cons (pe_call c_law_draw_ok (hr.mono (by decide)) rfl c_law_draw_m c_law_draw_k c_law_draw_b .nil pass0 (pa_cons (pv 0) (pa_cons (pe_callB call_lenU (by rfl) T.n_len (by decide +kernel) (pa_cons (pv 2) pa_nil)) pa_nil))) (pa_cons (pe_call c_law_draw_ok (hr.mono (by decide)) rfl c_law_draw_m c_law_draw_k c_law_draw_b .nil pass0 (pa_cons (pv 0) (pa_cons (pe_callB call_lenU (by rfl) T.n_len (by decide +kernel) (pa_cons (pe_dget (hu_of hr) (pv 1) pe_str (fun _ _ => rfl)) pa_nil)) pa_nil))) pa_nil)))) (pg_tup rfl (pgs_cons (pg_name (i := 4) sc_law_bad_full.nd rfl (by first | exact Or.inl rfl | exact Or.inr rfl)) (pgs_cons (pg_name (i := 5) sc_law_bad_full.nd rfl (by first | exact Or.inl rfl | exact Or.inr rfl)) (pgs_cons (pg_name (i := 6) sc_law_bad_full.nd rfl (by first | exact Or.inl rfl | exact Or.inr rfl)) pgs_nil)))))
      (pss_cons (ps_if (PW.pt (pw_or (pt_cmpR (op_eqU hr.units) (pe_callB call_lenU (by rfl) T.n_len (by decide +kernel) (pa_cons (pv 2) pa_nil)) pe_int (nomark _)) (pw_or1 (pt_cmpR (op_eqU hr.units) (pv 4) pe_int (nomark _))))) (pss_one (ps_ret (pe_tup (pa_cons (pe_call c_law_bad_table_ok (hr.mono (by decide)) rfl c_law_bad_table_m c_law_bad_table_k c_law_bad_table_b .nil pass0 (pa_cons (pv 0) pa_nil)) (pa_cons (pe_lamV MA rfl rfl (fun _ => rfl) (noFree (by decide +kernel))) pa_nil))))) pss_nil)
      (pss_cons (ps_set (i := 3) sc_law_bad_full.nd rfl (by first | exact Or.inl rfl | exact Or.inr rfl) (pe_call c_law_put_ok (hr.mono (by decide)) rfl c_law_put_m c_law_put_k c_law_put_b .nil pass0 (pa_cons (pv 2) (pa_cons (pv 5) (pa_cons (pe_call c_law_put_ok (hr.mono (by decide)) rfl c_law_put_m c_law_put_k c_law_put_b .nil pass0 (pa_cons (pe_ix ix_seq (pv 2) (pv 5) (fun _ _ => rfl)) (pa_cons (pv 6) (pa_cons pe_non pa_nil)))) pa_nil)))))
      (pss_cons (ps_if (pt_cmpR (op_eqU hr.units) (pe_lc (own := [("row", 7)]) (g := gName 7) rfl sc_law_bad_full.nd (pi_tup (pv 3)) (blkOk_by (N := ["state", "scope", "rows_here", "told", "fashion", "at", "spot", "row"]) (own := [("row", 7)]) (sc := defScope s_law_bad_full) (by decide +kernel)) (fun _ _ _ _ _ => (pg_name (i := 7) sc_law_bad_full.nd rfl (by first | exact Or.inl rfl | exact Or.inr rfl))) (fun _ _ _ _ _ => (pts_one (pt_cmpR op_notN (pe_ix ix_seq (pv 7) (pv 6) (fun _ _ => rfl)) pe_non (nomark _)))) (fun _ _ _ _ _ => pe_int)) (pe_lst pa_nil) (nomark _)) (pss_one (ps_ret (pe_tup (pa_cons (pe_call c_law_bad_table_ok (hr.mono (by decide)) rfl c_law_bad_table_m c_law_bad_table_k c_law_bad_table_b .nil pass0 (pa_cons (pv 0) pa_nil)) (pa_cons (pe_lamV MA rfl rfl (fun _ => rfl) (noFree (by decide +kernel))) pa_nil))))) pss_nil)
      (pss_one (ps_ret (pe_tup (pa_cons (pe_make c_Table_mk c_Table_ok (hr.mono (by decide)) rfl T.g_Table c_Table_b .nil passL (pa_cons (pe_dget (hu_of hr) (pv 1) pe_str (fun _ _ => rfl)) (pa_cons (pv 3) pa_nil))) (pa_cons (pe_lamV MA rfl rfl (fun _ => rfl) (noFree (by decide +kernel))) pa_nil)))))))))),
    (rds_seq (rds_set (rd_dget (rd_var (i := 1)) rd_str))
      (rds_seq (rds_asgG (rd_tup (rda_cons (rd_call0 (E := E0) (rda_st (i := 0) (rda_cons rd_int rda_nil))) (rda_cons (rd_call0 (E := E0) (rda_st (i := 0) (rda_cons (rd_cb cal_len (rda_cons (rd_var (i := 2)) rda_nil)) rda_nil))) (rda_cons (rd_call0 (E := E0) (rda_st (i := 0) (rda_cons (rd_cb cal_len (rda_cons (rd_dget (rd_var (i := 1)) rd_str) rda_nil)) rda_nil))) rda_nil)))) (rdg_three (vs := [4, 5, 6]) (by decide) (by decide) (by decide)))
      (rds_seq (rds_if (rdt_or (rdt_test (rd_op o2_eq (rd_cb cal_len (rda_cons (rd_var (i := 2)) rda_nil)) rd_int)) (rdt_test (rd_op o2_eq (rd_var (i := 4)) rd_int))) (rds_ret (rd_tup (rda_cons (rd_call0 (E := E0) (rda_st (i := 0) rda_nil)) (rda_cons (rd_lamD (j := 0) (LD := LamOkD P w K mg base TT 20) (lamOkD_of (k := 19) (N := ["caught"]) (x := "caught") (lamScope ⟨rfl, rfl, rfl, by decide +kernel, rfl, by decide +kernel, by decide +kernel⟩) (fun _ _ _ _ => rfl) (fun S9 c9 A9 outer9 s9 H9 f9 E9 hr => ⟨_, _, (pe_callB call_isD (by rfl) T.n_isinstance (by decide +kernel) (pa_cons (pv 0) (pa_cons (pe_glob (v := .ref cs.BadTable) rfl T.g_BadTable rfl) pa_nil))), (rd_is (.own _) (rd_var (i := 0))), fun _ _ _ _ h => h⟩))) rda_nil)))) rds_next)
      (rds_seq (rds_set (rd_call0 (E := E0) (rda_cons (rd_var (i := 2)) (rda_cons (rd_var (i := 5)) (rda_cons (rd_call0 (E := E0) (rda_cons (rd_op o2_ix (rd_var (i := 2)) (rd_var (i := 5))) (rda_cons (rd_var (i := 6)) (rda_cons rd_non rda_nil)))) rda_nil)))))
      (rds_seq (rds_if (rdt_test (rd_op o2_eq (rd_lc (rdj_of (rdi_tup (rd_var (i := 3)))) (rdg_name (vs := [7]) (by decide)) (rdt_test (rd_op o2_notN (rd_op o2_ix (rd_var (i := 7)) (rd_var (i := 6))) rd_non)) rd_int) (rd_lst rda_nil))) (rds_ret (rd_tup (rda_cons (rd_call0 (E := E0) (rda_st (i := 0) rda_nil)) (rda_cons (rd_lamD (j := 0) (LD := LamOkD P w K mg base TT 20) (lamOkD_of (k := 19) (N := ["caught"]) (x := "caught") (lamScope ⟨rfl, rfl, rfl, by decide +kernel, rfl, by decide +kernel, by decide +kernel⟩) (fun _ _ _ _ => rfl) (fun S9 c9 A9 outer9 s9 H9 f9 E9 hr => ⟨_, _, (pe_callB call_isD (by rfl) T.n_isinstance (by decide +kernel) (pa_cons (pv 0) (pa_cons (pe_glob (v := .ref cs.BadTable) rfl T.g_BadTable rfl) pa_nil))), (rd_is (.own _) (rd_var (i := 0))), fun _ _ _ _ h => h⟩))) rda_nil)))) rds_next)
      (rds_ret (rd_tup (rda_cons (rd_make (rda_cons (rd_dget (rd_var (i := 1)) rd_str) (rda_cons (rd_var (i := 3)) rda_nil))) (rda_cons (rd_lamD (j := 0) (LD := LamOkD P w K mg base TT 20) (lamOkD_of (k := 19) (N := ["caught"]) (x := "caught") (lamScope ⟨rfl, rfl, rfl, by decide +kernel, rfl, by decide +kernel, by decide +kernel⟩) (fun _ _ _ _ => rfl) (fun S9 c9 A9 outer9 s9 H9 f9 E9 hr => ⟨_, _, (pe_callB call_isD (by rfl) T.n_isinstance (by decide +kernel) (pa_cons (pv 0) (pa_cons (pe_glob (v := .ref cs.Unread) rfl T.g_Unread rfl) pa_nil))), (rd_is (.own _) (rd_var (i := 0))), fun _ _ _ _ h => h⟩))) rda_nil))))))))), ?_⟩
  rintro ss n Q ⟨ks, rss, rfl, t, hn, p⟩
  have hn' : n + 100 < 1099511627776 := hn
  have kl := t.kl
  have rl := t.rl
  have kl' : (ks.map D.int).length = ks.length := List.length_map ..
  have rl' : (rss.map tupI).length = rss.length := List.length_map ..
  unfold dicT
  walk_at "dl"
  have bad : ∀ n1, n1 ≤ n + 5 → ds_law_bad_table [SV.st] n1 fun d n1 => ∀ (F : FV), (LamOkD P w K mg base TT 20 F fun x => xIs K (Value.ref cs.BadTable) (xVar 0) [SV.d x]) → Q (D.tup [d, D.lam F]) n1 := fun n1 hn1 => by
    refine ⟨rfl, lim (by omega), fun d n2 hn2 xd ni F hF => p d F n2 (by omega) xd (.inl ⟨ni, _, hF, fun _ _ _ _ h => h⟩)⟩
  show ds_law_draw _ _ _
  refine ⟨2, rfl, by decide, by decide, lim (by omega), fun fa n1 f0 f1 hn1 => ?_⟩
  show ds_law_draw _ _ _
  rw [rl']
  refine ⟨_, rfl, by omega, by omega, lim (by omega), fun a n2 a0 a1 hn2 => ?_⟩
  obtain ⟨a, rfl⟩ := Int.eq_ofNat_of_zero_le a0
  show ds_law_draw _ _ _
  rw [kl']
  refine ⟨_, rfl, by omega, by omega, lim (by omega), fun s n3 s0 s1 hn3 => ?_⟩
  obtain ⟨s, rfl⟩ := Int.eq_ofNat_of_zero_le s0
  have ha : a < rss.length := by omega
  have hs : s < ks.length := by omega
  cases decide ((rss.length : Int) = 1) with
  | true => exact bad n3 (by omega)
  | false =>
    show eqP id (.int fa) (.int 0) _
    rw [eqP_int]
    simp only [id]
    cases decide (fa = 0) with
    | true => exact bad n3 (by omega)
    | false =>
      have ra : (rss.map tupI)[a]? = some (tupI rss[a]) := by rw [List.getElem?_map, List.getElem?_eq_getElem ha]; rfl
      have fr := t.rf _ (List.getElem_mem ha)
      show ∃ d, _ ∧ _
      refine ⟨tupI rss[a], at_nat ra, ?_⟩
      show ds_law_put _ _ _
      have rla : (rss[a].map D.int).length = ks.length := by rw [List.length_map, fr.len]
      refine ⟨rss[a].map D.int, s, .non, rfl, by omega, by omega, ?_⟩
      rw [put_at (by omega)]
      show ds_law_put _ _ _
      refine ⟨rss.map tupI, a, .tup ((rss[a].map D.int).set s .non), rfl, by omega, by omega, ?_⟩
      rw [put_at (by omega)]
      have er : (rss.map tupI).set a (.tup ((rss[a].map D.int).set s .non)) = ((rss.map fun r => r.map D.int).set a ((rss[a].map D.int).set s .non)).map D.tup := by
        rw [List.map_set, List.map_map]
        rfl
      rw [er]
      have rn : ∀ r ∈ (rss.map fun r => r.map D.int).set a ((rss[a].map D.int).set s .non), RowN ks r := fun r hr => by
        rcases List.mem_or_eq_of_mem_set hr with hr | rfl
        · obtain ⟨q, hq, rfl⟩ := List.mem_map.mp hr
          exact rowN_of (t.rf q hq)
        · exact rowN_non (rowN_of fr)
      have rnl : ((rss.map fun r => r.map D.int).set a ((rss[a].map D.int).set s .non)).length = rss.length := by rw [List.length_set, List.length_map]
      have hnon : ∃ r ∈ (rss.map fun r => r.map D.int).set a ((rss[a].map D.int).set s .non), D.non ∈ r :=
        ⟨_, List.mem_set (by rw [List.length_map]; exact ha) _, List.mem_set (by omega) _⟩
      have hoth : ∀ j, j < ks.length → j ≠ s → ∃ r ∈ (rss.map fun r => r.map D.int).set a ((rss[a].map D.int).set s .non), ∃ c, r[j]? = some (.int c) := fun j hj hne => by
        refine ⟨_, List.mem_set (by rw [List.length_map]; exact ha) _, rss[a][j]'(by rw [fr.len]; exact hj), ?_⟩
        rw [List.getElem?_set_ne (Ne.symm hne), List.getElem?_map, List.getElem?_eq_getElem (by rw [fr.len]; exact hj)]
        rfl
      generalize (rss.map fun r => r.map D.int).set a ((rss[a].map D.int).set s .non) = rs at rn rnl hnon hoth ⊢
      show _ ∧ _
      refine ⟨by rw [List.length_map]; omega, compM_filter (f := fun x => if notNonAt s x = true then some (.int 1) else none) (fun x hx m k q => ?_) ?_⟩
      · obtain ⟨r, hr, rfl⟩ := List.mem_map.mp hx
        have hl : s < r.length := by rw [(rn r hr).1]; exact hs
        refine ⟨r[s], at_nat (List.getElem?_eq_getElem hl), ?_⟩
        have e : notNonAt s (.tup r) = !DL.isNon r[s] := by
          show (!DL.isNon (r.getD s .non)) = _
          rw [List.getD_eq_getElem?_getD, List.getElem?_eq_getElem hl]
          rfl
        rw [e] at q
        show (match !DL.isNon r[s] with | true => k (some (.int 1)) m | false => k none m : Prop)
        generalize (!DL.isNon r[s]) = b at q ⊢
        cases b <;> exact q
      · have e9 : (rs.map D.tup).filterMap (fun x => if notNonAt s x = true then some (D.int 1) else none) = ones (notNonAt s) (rs.map D.tup) := rfl
        rw [e9]
        refine eq_ones ?_
        simp only [id]
        cases hall : (rs.map D.tup).all fun x => !notNonAt s x with
        | true => exact bad n3 (by omega)
        | false =>
          have hcol : ∀ j, j < ks.length → ∃ r ∈ rs, ∃ c, r[j]? = some (.int c) := fun j hj => by
            by_cases z : j = s
            · subst z
              obtain ⟨x, hx, hy⟩ := not_all hall
              obtain ⟨r, hr, rfl⟩ := List.mem_map.mp hx
              have hl : j < r.length := by rw [(rn r hr).1]; exact hj
              rcases (rn r hr).2 j _ r[j] (List.getElem?_eq_getElem hj) (List.getElem?_eq_getElem hl) with e | ⟨c, e, _⟩
              · have w : notNonAt j (.tup r) = false := by
                  show (!DL.isNon (r.getD j .non)) = false
                  rw [List.getD_eq_getElem?_getD, List.getElem?_eq_getElem hl, Option.getD_some, e]
                  rfl
                rw [w] at hy
                cases hy
              · exact ⟨r, hr, c, by rw [List.getElem?_eq_getElem hl, e]⟩
            · exact hoth j hj z
          have rk := none_rows (ks := ks) (by omega) rn hcol
          have kk := kinds_ok t.kl t.kb
          refine ⟨T.ic_Table, ?_⟩
          show ds_Table_init cs _ _ _ _
          refine ⟨_, _, rfl, nxs_ints, rowsN_nx rn, (fun z => by rw [kk] at z; cases z), (fun _ z => by rw [show rowsB (match D.tup (ks.map D.int) with | .tup ks => ks | _ => []) (.tup (rs.map D.tup)) = true from rk] at z; cases z), fun _ _ F hF => ?_⟩
          exact p _ F n3 (by omega) (tab_nx (rowsN_nx rn)) (.inr ⟨rs, ⟨t.kl, t.kb, by omega, rn, hnon⟩, rfl, _, hF, fun _ _ _ _ h => h⟩)

theorem sc_do_join : FnScope ["pairs", "customs"] ["pairs", "customs"] (defScope s_do_join) := ⟨rfl, rfl, rfl, by decide +kernel, rfl, by decide +kernel, by decide +kernel⟩
theorem ok_do_join (T : Txt K mg cs tk0) (D : DefAt K mg "_do_join" s_do_join ["pairs", "customs"]) (c_steps_to : Has P w K mg base CX0 2 "steps_to" ["ties", "goal"] (sp0 K TT ds_steps_to)) : Has P w K mg base CX0 3 "_do_join" ["pairs", "customs"] (sp0 K TT ds_do_join) := by
  obtain ⟨f, fd, F, hm, hk, hb⟩ := D
  obtain ⟨_, _, c_steps_to_ok, c_steps_to_m, c_steps_to_k, c_steps_to_b⟩ := c_steps_to
  refine ⟨f, fd, F.okD sc_do_join (len_do_join) (fun S cdv A outer s H E hr => ?_), hm, hk, hb⟩
  refine ⟨_, _, (pss_one (ps_ret (pe_cmpR (op_eqU hr.units) (pe_callB call_lenK (by rfl) T.n_len (by decide +kernel) (pa_cons (pe_call c_steps_to_ok (hr.mono (by decide)) rfl c_steps_to_m c_steps_to_k c_steps_to_b .nil pass0 (pa_cons (pv 0) (pa_cons (pe_ix ix_seq (pv 1) pe_int (fun _ _ => rfl)) pa_nil))) pa_nil)) (pe_callB call_lenU (by rfl) T.n_len (by decide +kernel) (pa_cons (pv 1) pa_nil)) (nomark _)))),
    (rds_ret (rd_op o2_eq (rd_cb cal_lenK (rda_cons (rd_call0 (E := E0) (rda_cons (rd_var (i := 0)) (rda_cons (rd_op o2_ix (rd_var (i := 1)) rd_int) rda_nil))) rda_nil)) (rd_cb cal_len (rda_cons (rd_var (i := 1)) rda_nil)))), ?_⟩
  rintro ss n P ⟨us, ts, rfl, u, t, p⟩
  walk_at "dl"
  have ul := u.l
  obtain ⟨g, hg⟩ : ∃ g, us[0]? = some g := ⟨us[0], List.getElem?_eq_getElem (by omega)⟩
  have hg2 : us.getD 0 0 = g := by rw [List.getD_eq_getElem?_getD, hg]; rfl
  refine ⟨.int g, at_nat (j := 0) (by rw [List.getElem?_map, hg]; rfl), us, _, ts, g, rfl, .inl rfl, t, List.mem_of_getElem? hg, fun ks vs hs => ?_⟩
  show eqP id (.int ((ks.map keyI).length : Nat)) (.int ((us.map D.int).length : Nat)) _
  rw [eqP_int, List.length_map, List.length_map]
  simp only [id]
  rw [conn_lenU u.nd hs.i.nd hs.i.rng fun c => by rw [hg2]; exact stepU_near hs] at p
  rw [show decide (((ks.length : Nat) : Int) = ((us.length : Nat) : Int)) = decide (ks.length = us.length) from decide_eq_decide.mpr (by omega)]
  exact p

theorem sc_is_pair : FnScope ["customs", "thing", "custom"] ["customs", "thing"] (defScope s_is_pair) := ⟨rfl, rfl, rfl, by decide +kernel, rfl, by decide +kernel, by decide +kernel⟩
theorem ok_is_pair (T : Txt K mg cs tk0) (D : DefAt K mg "_is_pair" s_is_pair ["customs", "thing"]) (c_is_lot : Has P w K mg base CX0 3 "is_lot" ["thing", "low", "high"] (sp0 K TT ds_is_lot)) : Has P w K mg base CX0 4 "_is_pair" ["customs", "thing"] (sp0 K TT ds_is_pair) := by
  obtain ⟨f, fd, F, hm, hk, hb⟩ := D
  obtain ⟨_, _, c_is_lot_ok, c_is_lot_m, c_is_lot_k, c_is_lot_b⟩ := c_is_lot
  refine ⟨f, fd, F.okD sc_is_pair (len_is_pair) (fun S cdv A outer s H E hr => ?_), hm, hk, hb⟩
  refine ⟨_, _, (pss_cons (ps_if (PW.pt (pw_or (pt_not (pt_val (pe_call c_is_lot_ok (hr.mono (by decide)) rfl c_is_lot_m c_is_lot_k c_is_lot_b .nil pass0 (pa_cons (pv 1) (pa_cons (pe_ix ix_seq (pv 0) pe_int (fun _ _ => rfl)) (pa_cons (pe_ix ix_seq (pv 0) (pe_un un_neg pe_int) (fun _ _ => rfl)) pa_nil)))))) (pw_or1 (pt_cmpR (op_neU hr.units) (pe_callB call_lenU (by rfl) T.n_len (by decide +kernel) (pa_cons (pv 1) pa_nil)) pe_int (nomark _))))) (pss_one (ps_ret pe_bl)) pss_nil)
      (pss_one (ps_ret (pe_callB (cr_all rfl) (by rfl) T.n_all (by decide +kernel) (pa_cons (pe_lc (own := [("custom", 2)]) (g := gName 2) rfl sc_is_pair.nd (pi_tup (pv 1)) (blkOk_by (N := ["customs", "thing", "custom"]) (own := [("custom", 2)]) (sc := defScope s_is_pair) (by decide +kernel)) (fun _ _ _ _ _ => (pg_name (i := 2) sc_is_pair.nd rfl (by first | exact Or.inl rfl | exact Or.inr rfl))) (fun _ _ _ _ _ => pts_nil) (fun _ _ _ _ _ => (pe_cmpR op_in_seq (pv 2) (pv 0) (by with_unfolding_all rfl)))) pa_nil))))),
    (rds_seq (rds_if (rdt_or (rdt_not (rdt_B (rd_call0 (E := E0) (rda_cons (rd_var (i := 1)) (rda_cons (rd_op o2_ix (rd_var (i := 0)) rd_int) (rda_cons (rd_op o2_ix (rd_var (i := 0)) (rd_un o1_neg rd_int)) rda_nil)))))) (rdt_test (rd_op o2_ne (rd_cb cal_len (rda_cons (rd_var (i := 1)) rda_nil)) rd_int))) (rds_ret rd_bl) rds_next)
      (rds_ret (rd_cb cal_all (rda_cons (rd_lc (rdj_of (rdi_tup (rd_var (i := 1)))) (rdg_name (vs := [2]) (by decide)) rdt_yes (rd_op o2_in (rd_var (i := 2)) (rd_var (i := 0)))) rda_nil)))), ?_⟩
  rintro ss n P ⟨us, d, rfl, u, xd, sd, p⟩
  walk_at "dl"
  have ul := u.l
  obtain ⟨j, hj⟩ : ∃ j, us.length = j + 1 := ⟨us.length - 1, by omega⟩
  obtain ⟨g, hg⟩ : ∃ g, us[0]? = some g := ⟨us[0], List.getElem?_eq_getElem (by omega)⟩
  have hg2 : us.getD 0 0 = g := by rw [List.getD_eq_getElem?_getD, hg]; rfl
  refine ⟨.int g, at_nat (j := 0) (by rw [List.getElem?_map, hg]; rfl), .int (us.getD j 0), at_lastU hj, d, g, us.getD j 0, rfl, xd, sd, ?_⟩
  have hno : lotB2 g (us.getD j 0) d = false → tieC us d = false := fun z => by
    cases d with
    | tup xs =>
      rw [← tie_lot u hj, hg2, z]
      rfl
    | _ => rfl
  cases hb : lotB2 g (us.getD j 0) d with
  | false =>
    rw [hno hb] at p
    exact p
  | true =>
    obtain ⟨ns, rfl, _, _, _⟩ := lot_ofU hb
    have e1 := tie_lot u hj (xs := ns.map D.int)
    rw [hg2, show lotB2 g (us.getD j 0) (.tup (ns.map D.int)) = true from hb, Bool.true_and, List.length_map] at e1
    have p : P (.bl (tieC us (.tup (ns.map D.int)))) n := p
    rw [← e1] at p
    show eqP not (.int ((ns.map D.int).length : Nat)) (.int 2) _
    rw [eqP_int, List.length_map]
    by_cases h2 : ns.length = 2
    · rw [decide_eq_true h2, Bool.true_and] at p
      rw [decide_eq_true (show ((ns.length : Nat) : Int) = 2 by omega)]
      refine ⟨by rw [List.length_map]; omega, compM_map (f := fun x => .bl (decide (toI x ∈ us))) (fun x hx n2 k q => ?_) (allD_map p)⟩
      obtain ⟨i, _, rfl⟩ := List.mem_map.mp hx
      refine ⟨i, us, rfl, rfl, ?_⟩
      rw [any_in]
      exact q
    · rw [decide_eq_false h2] at p
      rw [decide_eq_false (show ¬ ((ns.length : Nat) : Int) = 2 by omega)]
      exact p

theorem sc_is_custom_tree : FnScope ["table", "matter", "thing", "customs", "pair"] ["table", "matter", "thing"] (defScope s_is_custom_tree) := ⟨rfl, rfl, rfl, by decide +kernel, rfl, by decide +kernel, by decide +kernel⟩
theorem ok_is_custom_tree (T : Txt K mg cs tk0) (D : DefAt K mg "is_custom_tree" s_is_custom_tree ["table", "matter", "thing"]) (c_check_full : Has P w K mg base (L2.CX P w) 3 "check_full" ["table"] (spX K TT (ds_check_full cs))) (c_used : Has P w K mg base (L2.CX P w) 4 "used" ["table", "matter"] (spX K TT (ds_used cs))) (c_is_pair : Has P w K mg base CX0 4 "_is_pair" ["customs", "thing"] (sp0 K TT ds_is_pair)) (c_is_rising : Has P w K mg base CX0 1 "is_rising" ["things"] (sp0 K TT ds_is_rising)) (c_do_join : Has P w K mg base CX0 3 "_do_join" ["pairs", "customs"] (sp0 K TT ds_do_join)) : Has P w K mg base (L2.CX P w) 5 "is_custom_tree" ["table", "matter", "thing"] (spX K TT (ds_is_custom_tree cs)) := by
  obtain ⟨f, fd, F, hm, hk, hb⟩ := D
  obtain ⟨_, _, c_check_full_ok, c_check_full_m, c_check_full_k, c_check_full_b⟩ := c_check_full
  obtain ⟨_, _, c_used_ok, c_used_m, c_used_k, c_used_b⟩ := c_used
  obtain ⟨_, _, c_is_pair_ok, c_is_pair_m, c_is_pair_k, c_is_pair_b⟩ := c_is_pair
  obtain ⟨_, _, c_is_rising_ok, c_is_rising_m, c_is_rising_k, c_is_rising_b⟩ := c_is_rising
  obtain ⟨_, _, c_do_join_ok, c_do_join_m, c_do_join_k, c_do_join_b⟩ := c_do_join
  refine ⟨f, fd, F.okXD sc_is_custom_tree (len_is_custom_tree cs) (fun S cdv A outer s H E hr => ?_), hm, hk, hb⟩
  have tk := takes_of (X := cxOf (L2.CX P w) P w K mg base ["table", "matter", "thing", "customs", "pair"] "is_custom_tree" (defScope s_is_custom_tree) f cdv A outer s H E) (E := E) rfl rfl rfl rfl
  refine ⟨_, _, (pss_cons (ps_expr (pe_call c_check_full_ok (hr.mono (by decide)) rfl c_check_full_m c_check_full_k c_check_full_b .nil (passes_call tk (fun _ _ _ _ h => h)) (pa_cons (pv 0) pa_nil)))
      (pss_cons (ps_set (i := 3) sc_is_custom_tree.nd rfl (by first | exact Or.inl rfl | exact Or.inr rfl) (pe_call c_used_ok (hr.mono (by decide)) rfl c_used_m c_used_k c_used_b .nil (passes_call tk (fun _ _ _ _ h => h)) (pa_cons (pv 0) (pa_cons (pv 1) pa_nil))))
      (pss_cons (ps_if (PW.pt (pw_or (pt_not (pt_val (pe_callB call_isD (by rfl) T.n_isinstance (by decide +kernel) (pa_cons (pv 2) (pa_cons (pe_bltn rfl T.n_tuple (by decide +kernel) (v := .ty "tuple") rfl) pa_nil))))) (pw_or1 (pt_cmpR (op_neU hr.units) (pe_callB call_lenU (by rfl) T.n_len (by decide +kernel) (pa_cons (pv 2) pa_nil)) (pe_op op_sub (pe_callB call_lenU (by rfl) T.n_len (by decide +kernel) (pa_cons (pv 3) pa_nil)) pe_int) (nomark _))))) (pss_one (ps_ret pe_bl)) pss_nil)
      (pss_cons (ps_if (pt_not (pt_val (pe_callB (cr_all rfl) (by rfl) T.n_all (by decide +kernel) (pa_cons (pe_lc (own := [("pair", 4)]) (g := gName 4) rfl sc_is_custom_tree.nd (pi_tup (pv 2)) (blkOk_by (N := ["table", "matter", "thing", "customs", "pair"]) (own := [("pair", 4)]) (sc := defScope s_is_custom_tree) (by decide +kernel)) (fun _ _ _ _ _ => (pg_name (i := 4) sc_is_custom_tree.nd rfl (by first | exact Or.inl rfl | exact Or.inr rfl))) (fun _ _ _ _ _ => pts_nil) (fun _ _ _ _ _ => (pe_call c_is_pair_ok (hr.mono (by decide)) rfl c_is_pair_m c_is_pair_k c_is_pair_b .nil pass0 (pa_cons (pv 3) (pa_cons (pv 4) pa_nil))))) pa_nil)))) (pss_one (ps_ret pe_bl)) pss_nil)
      (pss_one (ps_ret (pe_and (pe_call c_is_rising_ok (hr.mono (by decide)) rfl c_is_rising_m c_is_rising_k c_is_rising_b .nil pass0 (pa_cons (pv 2) pa_nil)) (pe_one (pe_call c_do_join_ok (hr.mono (by decide)) rfl c_do_join_m c_do_join_k c_do_join_b .nil pass0 (pa_cons (pv 2) (pa_cons (pv 3) pa_nil))))))))))),
    (rds_seq (rds_drop (rd_callX (rda_cons (rd_var (i := 0)) rda_nil)))
      (rds_seq (rds_set (rd_callX (rda_cons (rd_var (i := 0)) (rda_cons (rd_var (i := 1)) rda_nil))))
      (rds_seq (rds_if (rdt_or (rdt_not (rdt_B (rd_isT (by decide) (rd_var (i := 2))))) (rdt_test (rd_op o2_ne (rd_cb cal_len (rda_cons (rd_var (i := 2)) rda_nil)) (rd_op o2_sub (rd_cb cal_len (rda_cons (rd_var (i := 3)) rda_nil)) rd_int)))) (rds_ret rd_bl) rds_next)
      (rds_seq (rds_if (rdt_not (rdt_B (rd_cb cal_all (rda_cons (rd_lc (rdj_of (rdi_tup (rd_var (i := 2)))) (rdg_name (vs := [4]) (by decide)) rdt_yes (rd_call0 (E := E0) (rda_cons (rd_var (i := 3)) (rda_cons (rd_var (i := 4)) rda_nil)))) rda_nil)))) (rds_ret rd_bl) rds_next)
      (rds_ret (rd_andV (rd_call0 (E := E0) (rda_cons (rd_var (i := 2)) rda_nil)) (rd_call0 (E := E0) (rda_cons (rd_var (i := 2)) (rda_cons (rd_var (i := 3)) rda_nil))))))))), ?_⟩
  rintro ss n P XP ⟨d, v, z, rfl, xv, xz, sz, h⟩
  walk_at "dl"
  rcases h with ⟨xd, ni, p⟩ | ⟨ks, rs, t, rfl, p⟩ | ⟨ks, rss, rfl, t, h⟩
  · exact ⟨_, rfl, .inl ⟨xd, ni, p⟩⟩
  · exact ⟨_, rfl, .inr (.inr ⟨ks, rs, t, rfl, p⟩)⟩
  refine ⟨_, rfl, .inr (.inl ⟨ks, rss, t, rfl, ?_⟩)⟩
  walk_at "dl"
  rcases h with ⟨hb, p⟩ | ⟨m, rfl, hm, p⟩
  · exact ⟨_, _, rfl, xv, .inr ⟨ks, rss, rfl, t, .inl ⟨hb, p⟩⟩⟩
  refine ⟨_, _, rfl, xv, .inr ⟨ks, rss, rfl, t, .inr ⟨m, rfl, hm, ?_⟩⟩⟩
  have u := usedL_ok t hm
  generalize usedL rss m = us at u p ⊢
  have ul := u.l
  walk_at "dl"
  refine ⟨bare_of xz, ?_⟩
  cases z with
  | tup xs =>
    have hx : nxs xs = true := xz
    simp only [short2, Bool.and_eq_true, decide_eq_true_eq, List.all_eq_true] at sz
    have eB : ctB us (.tup xs) = (decide (xs.length + 1 = us.length) && (xs.all (tieC us) && (risL (xs.map intsD) && connU us (xs.map pairD)))) := rfl
    show eqP not (.int (xs.length : Nat)) (.int (((us.map D.int).length : Int) - 1)) _
    rw [eqP_int, List.length_map]
    by_cases hl : xs.length + 1 = us.length
    · rw [decide_eq_true (show ((xs.length : Nat) : Int) = (us.length : Int) - 1 by omega)]
      show _ ∧ _
      refine ⟨by omega, compM_map (f := fun x => .bl (tieC us x)) (fun x hx2 n2 k q => ⟨us, x, rfl, u, nxs_mem hx hx2, sz.2 x hx2, q⟩) (allD_map ?_)⟩
      cases ha : xs.all (tieC us) with
      | false =>
        rw [eB, ha] at p
        simpa using p
      | true =>
        obtain ⟨ts, rfl, bs⟩ := tiesC_of ha
        rw [List.length_map] at hl
        rw [ctB_pairs hl bs] at p
        show ds_is_rising _ _ _
        refine .inr ⟨ts.map fun e => [e.1, e.2], ?_, by rw [List.length_map]; omega, ?_⟩
        · rw [List.map_map]
          rfl
        · cases hr : risL (ts.map fun e => [e.1, e.2]) with
          | false =>
            rw [hr] at p
            exact p
          | true =>
            rw [hr, Bool.true_and] at p
            exact ⟨us, ts, rfl, u, ⟨by omega, by omega, fun e he => (bs e he).2⟩, p⟩
    · rw [decide_eq_false (show ¬ ((xs.length : Nat) : Int) = (us.length : Int) - 1 by omega)]
      rw [eB, decide_eq_false hl] at p
      exact p
  | _ => exact p

theorem sc_pair_parting : FnScope ["table", "matter", "custom_tree", "pair", "others", "near", "other", "valley", "row"] ["table", "matter", "custom_tree", "pair"] (defScope s_pair_parting) := ⟨rfl, rfl, rfl, by decide +kernel, rfl, by decide +kernel, by decide +kernel⟩
theorem ok_pair_parting (T : Txt K mg cs tk0) (D : DefAt K mg "_pair_parting" s_pair_parting ["table", "matter", "custom_tree", "pair"]) (c_steps_to : Has P w K mg base CX0 2 "steps_to" ["ties", "goal"] (sp0 K TT ds_steps_to)) : Has P w K mg base CX0 3 "_pair_parting" ["table", "matter", "custom_tree", "pair"] (sp0 K TT (ds_pair_parting cs)) := by
  obtain ⟨f, fd, F, hm, hk, hb⟩ := D
  obtain ⟨_, _, c_steps_to_ok, c_steps_to_m, c_steps_to_k, c_steps_to_b⟩ := c_steps_to
  refine ⟨f, fd, F.okD sc_pair_parting (len_pair_parting cs) (fun S cdv A outer s H E hr => ?_), hm, hk, hb⟩
  refine ⟨_, _, (pss_cons (ps_setLc (i := 4) (own := [("other", 6)]) (g := gName 6) rfl sc_pair_parting.nd rfl rfl (sw_true rfl rfl rfl (by decide +kernel)) (pi_tup (pv 2)) (blkOk_by (N := ["table", "matter", "custom_tree", "pair", "others", "near", "other", "valley", "row"]) (own := [("other", 6)]) (sc := defScope s_pair_parting) (by decide +kernel)) (fun _ _ _ _ _ => (pg_name (i := 6) sc_pair_parting.nd rfl (by first | exact Or.inl rfl | exact Or.inr rfl))) (fun _ _ _ _ _ => (pts_one (pt_cmpR (op_neU hr.units) (pv 6) (pv 3) (nomark _)))) (fun _ _ _ _ _ => (pv 6)))
      (pss_cons (ps_set (i := 5) sc_pair_parting.nd rfl (by first | exact Or.inl rfl | exact Or.inr rfl) (pe_call c_steps_to_ok (hr.mono (by decide)) rfl c_steps_to_m c_steps_to_k c_steps_to_b .nil pass0 (pa_cons (pv 4) (pa_cons (pe_ix ix_seq (pe_ix ix_seq (pe_fld (pv 0) rfl) pe_int (fun _ _ => rfl)) (pv 1) (fun _ _ => rfl)) pa_nil))))
      (pss_one (ps_ret (pe_callTy call_tupU (by rfl) T.n_tuple (by decide +kernel) (pa_cons (pe_lc (own := [("valley", 7), ("row", 8)]) (g := gTup _ 2 (gCons (gName 7) (gCons (gName 8) gNil))) rfl sc_pair_parting.nd (RZ.pi_enumA (by rfl) T.n_enumerate (pa_cons (pe_fld (pv 0) rfl) pa_nil)) (blkOk_by (N := ["table", "matter", "custom_tree", "pair", "others", "near", "other", "valley", "row"]) (own := [("valley", 7), ("row", 8)]) (sc := defScope s_pair_parting) (by decide +kernel)) (fun _ _ _ _ _ => (pg_tup rfl (pgs_cons (pg_name (i := 7) sc_pair_parting.nd rfl (by first | exact Or.inl rfl | exact Or.inr rfl)) (pgs_cons (pg_name (i := 8) sc_pair_parting.nd rfl (by first | exact Or.inl rfl | exact Or.inr rfl)) pgs_nil)))) (fun _ _ _ _ _ => (pts_one (pt_cmp (pc_dnotin (hu_of hr) (pe_ix ix_seq (pv 8) (pv 1) (fun _ _ => rfl)) (pv 5)) rfl))) (fun _ _ _ _ _ => (pv 7))) pa_nil)))))),
    (rds_seq (rds_set (rd_lc (rdj_of (rdi_tup (rd_var (i := 2)))) (rdg_name (vs := [6]) (by decide)) (rdt_test (rd_op o2_ne (rd_var (i := 6)) (rd_var (i := 3)))) (rd_var (i := 6))))
      (rds_seq (rds_set (rd_call0 (E := E0) (rda_cons (rd_var (i := 4)) (rda_cons (rd_op o2_ix (rd_op o2_ix (rd_fld (rd_var (i := 0))) rd_int) (rd_var (i := 1))) rda_nil))))
      (rds_ret (rd_cb cal_tuple (rda_cons (rd_lc (rdj_of (rdi_enum (rda_cons (rd_fld (rd_var (i := 0))) rda_nil))) (rdg_two (vs := [7, 8]) (by decide) (by decide)) (rdt_notInK (rd_op o2_ix (rd_var (i := 8)) (rd_var (i := 1))) (rd_var (i := 5))) (rd_var (i := 7))) rda_nil))))), ?_⟩
  rintro ss n P ⟨ks, rss, m, ts, e, rfl, t, hm, c, p⟩
  have u := usedL_ok t hm
  have ul := u.l
  have cl := c.l
  have hl := t.rl
  walk_at "dl"
  refine ⟨by rw [List.length_map]; omega, compM_filter (f := notE e) (fun x hx n2 k q => ?_) ?_⟩
  · obtain ⟨f, hf, rfl⟩ := List.mem_map.mp hx
    refine eqP_intsU ?_
    rw [pair_eq]
    have q' : k (if decide (pairD (pairI f) ≠ e) then some (pairI f) else none) n2 := q
    rw [pairD_at] at q'
    by_cases z : f = e
    · rw [decide_eq_true z]
      simpa [z] using q'
    · rw [decide_eq_false z]
      simpa [z] using q'
  rw [notE_map]
  have h0 : 0 < rss.length := by omega
  have hr0 := t.rf _ (List.getElem_mem h0)
  have hm0 : m < rss[0].length := by rw [hr0.len]; exact hm
  refine ⟨T.na_Table_rows, _, fld_r, tupI rss[0], at_nat (j := 0) (by rw [List.getElem?_map, List.getElem?_eq_getElem h0]; rfl), .int rss[0][m], at_nat (by rw [List.getElem?_map, List.getElem?_eq_getElem hm0]; rfl), ?_⟩
  have e0 : (colL rss m).getD 0 0 = rss[0][m] := by
    unfold colL
    rw [List.getD_eq_getElem?_getD, List.getElem?_map, List.getElem?_eq_getElem h0]
    show rss[0].getD m 0 = _
    rw [List.getD_eq_getElem?_getD, List.getElem?_eq_getElem hm0]
    rfl
  have hin : rss[0][m] ∈ usedL rss m := (mem_usedL t hm).mpr ⟨rss[0], List.getElem_mem h0, by rw [List.getD_eq_getElem?_getD, List.getElem?_eq_getElem hm0]; rfl⟩
  refine ⟨usedL rss m, _, ts.filter fun t => decide (t ≠ e), _, rfl, .inr rfl, ⟨Nat.le_trans (List.length_filter_le _ _) (by omega), by omega, fun f hf => (c.b f (List.mem_filter.mp hf).1).2⟩, hin, fun us vs hs => ?_⟩
  refine ⟨T.na_Table_rows, _, fld_r, ?_⟩
  show _ ∧ _
  refine ⟨by rw [enumD_len, List.length_map]; omega, compM_filter (f := farF us m) (fun x hx n2 k q => ?_) ?_⟩
  · obtain ⟨i, hi⟩ := List.mem_iff_getElem?.mp hx
    rw [enumD_get, List.getElem?_map] at hi
    obtain ⟨r0, hr0, rfl⟩ := Option.map_eq_some_iff.mp hi
    obtain ⟨r, hr, rfl⟩ := Option.map_eq_some_iff.mp hr0
    have hm1 : m < r.length := by rw [(t.rf r (List.mem_of_getElem? hr)).len]; exact hm
    have q' : k (if !decide (toI (atN (tupI r) m) ∈ us) then some (.int ((0 + i : Nat) : Int)) else none) n2 := q
    have e2 : atN (tupI r) m = .int r[m] := by
      show (r.map D.int).getD m .non = _
      rw [List.getD_eq_getElem?_getD, List.getElem?_map, List.getElem?_eq_getElem hm1]
      rfl
    rw [e2] at q'
    refine ⟨.int r[m], at_nat (by rw [List.getElem?_map, List.getElem?_eq_getElem hm1]; rfl), keyI r[m], _, _, rfl, rfl, ?_⟩
    rw [keys_in]
    have q' : k (if !decide (r[m] ∈ us) then some (.int ((0 + i : Nat) : Int)) else none) n2 := q'
    cases z : decide (r[m] ∈ us) <;> rw [z] at q' <;> simpa using q'
  · rw [far_map fun r hr => by rw [(t.rf r hr).len]; exact hm]
    have e3 : ((List.range (colL rss m).length).filter fun v => !decide ((colL rss m).getD v 0 ∈ us)).map natD = (partC ts (colL rss m) e).map D.int := by
      unfold partC
      rw [List.map_map, e0]
      refine congrArg _ (List.filter_congr fun v _ => ?_)
      rw [stepU_near hs]
    rw [e3]
    exact p

theorem sc_pair_partings : FnScope ["table", "matter", "custom_tree", "pair"] ["table", "matter", "custom_tree"] (defScope s_pair_partings) := ⟨rfl, rfl, rfl, by decide +kernel, rfl, by decide +kernel, by decide +kernel⟩
theorem ok_pair_partings (T : Txt K mg cs tk0) (D : DefAt K mg "pair_partings" s_pair_partings ["table", "matter", "custom_tree"]) (c_is_custom_tree : Has P w K mg base (L2.CX P w) 5 "is_custom_tree" ["table", "matter", "thing"] (spX K TT (ds_is_custom_tree cs))) (c_pair_parting : Has P w K mg base CX0 3 "_pair_parting" ["table", "matter", "custom_tree", "pair"] (sp0 K TT (ds_pair_parting cs))) : Has P w K mg base (L2.CX P w) 6 "pair_partings" ["table", "matter", "custom_tree"] (spX K TT (ds_pair_partings cs)) := by
  obtain ⟨f, fd, F, hm, hk, hb⟩ := D
  obtain ⟨_, _, c_is_custom_tree_ok, c_is_custom_tree_m, c_is_custom_tree_k, c_is_custom_tree_b⟩ := c_is_custom_tree
  obtain ⟨_, _, c_pair_parting_ok, c_pair_parting_m, c_pair_parting_k, c_pair_parting_b⟩ := c_pair_parting
  refine ⟨f, fd, F.okXD sc_pair_partings (len_pair_partings cs) (fun S cdv A outer s H E hr => ?_), hm, hk, hb⟩
  have tk := takes_of (X := cxOf (L2.CX P w) P w K mg base ["table", "matter", "custom_tree", "pair"] "pair_partings" (defScope s_pair_partings) f cdv A outer s H E) (E := E) rfl rfl rfl rfl
  refine ⟨_, _, (pss_cons (ps_if (pt_not (pt_val (pe_call c_is_custom_tree_ok (hr.mono (by decide)) rfl c_is_custom_tree_m c_is_custom_tree_k c_is_custom_tree_b .nil (passes_call tk (fun _ _ _ _ h => h)) (pa_cons (pv 0) (pa_cons (pv 1) (pa_cons (pv 2) pa_nil)))))) (pss_one (ps_raise (W := fun cls d _ H => E cls d H) rfl tk (pmk_own PySem.F.excBase_ValueError T.x_BadCustomTree T.g_BadCustomTree T.e_BadCustomTree (raises_own T.b_BadCustomTree T.t_BadCustomTree) rfl))) pss_nil)
      (pss_one (ps_ret (pe_callTy call_tupU (by rfl) T.n_tuple (by decide +kernel) (pa_cons (pe_lc (own := [("pair", 3)]) (g := gName 3) rfl sc_pair_partings.nd (pi_tup (pv 2)) (blkOk_by (N := ["table", "matter", "custom_tree", "pair"]) (own := [("pair", 3)]) (sc := defScope s_pair_partings) (by decide +kernel)) (fun _ _ _ _ _ => (pg_name (i := 3) sc_pair_partings.nd rfl (by first | exact Or.inl rfl | exact Or.inr rfl))) (fun _ _ _ _ _ => pts_nil) (fun _ _ _ _ _ => (pe_call c_pair_parting_ok (hr.mono (by decide)) rfl c_pair_parting_m c_pair_parting_k c_pair_parting_b .nil pass0 (pa_cons (pv 0) (pa_cons (pv 1) (pa_cons (pv 2) (pa_cons (pv 3) pa_nil))))))) pa_nil))))),
    (rds_seq (rds_if (rdt_not (rdt_B (rd_callX (rda_cons (rd_var (i := 0)) (rda_cons (rd_var (i := 1)) (rda_cons (rd_var (i := 2)) rda_nil)))))) rds_raise rds_next)
      (rds_ret (rd_cb cal_tuple (rda_cons (rd_lc (rdj_of (rdi_tup (rd_var (i := 2)))) (rdg_name (vs := [3]) (by decide)) rdt_yes (rd_call0 (E := E0) (rda_cons (rd_var (i := 0)) (rda_cons (rd_var (i := 1)) (rda_cons (rd_var (i := 2)) (rda_cons (rd_var (i := 3)) rda_nil)))))) rda_nil)))), ?_⟩
  rintro ss n P XP ⟨d, v, z, rfl, xv, xz, sz, h⟩
  walk_at "dl"
  rcases h with ⟨xd, ni, p⟩ | ⟨ks, rs, t, rfl, p⟩ | ⟨ks, rss, rfl, t, h⟩
  · exact ⟨_, _, _, rfl, xv, xz, sz, .inl ⟨xd, ni, p⟩⟩
  · exact ⟨_, _, _, rfl, xv, xz, sz, .inr (.inl ⟨ks, rs, t, rfl, p⟩)⟩
  rcases h with ⟨hb, p⟩ | ⟨m, rfl, hm, h⟩
  · exact ⟨_, _, _, rfl, xv, xz, sz, .inr (.inr ⟨ks, rss, rfl, t, .inl ⟨hb, p⟩⟩)⟩
  refine ⟨_, _, _, rfl, xv, xz, sz, .inr (.inr ⟨ks, rss, rfl, t, .inr ⟨m, rfl, hm, ?_⟩⟩)⟩
  rcases h with ⟨hb, p⟩ | ⟨ts, rfl, c, p⟩
  · rw [hb]
    exact p
  have u := usedL_ok t hm
  have ul := u.l
  have cl := c.l
  rw [ct_B c]
  walk_at "dl"
  refine ⟨by rw [List.length_map]; omega, compM_map (f := fun x => tupI (partC ts (colL rss m) (pairD x))) (fun x hx n2 k q => ?_) ?_⟩
  · obtain ⟨e, he, rfl⟩ := List.mem_map.mp hx
    rw [pairD_at] at q
    exact ⟨ks, rss, m, ts, e, rfl, t, hm, c, q⟩
  · show P _ _
    have e : (ts.map pairI).map (fun x => tupI (partC ts (colL rss m) (pairD x))) = (sidesC ts (colL rss m)).map tupI := by
      unfold sidesC
      rw [List.map_map, List.map_map]
      exact List.map_congr_left fun e _ => by
        show tupI (partC ts (colL rss m) (pairD (pairI e))) = _
        rw [pairD_at]
        rfl
    rw [e]
    exact p

theorem sc_law_column : FnScope ["scope", "spot", "row"] ["scope", "spot"] (defScope s_law_column) := ⟨rfl, rfl, rfl, by decide +kernel, rfl, by decide +kernel, by decide +kernel⟩
theorem ok_law_column (T : Txt K mg cs tk0) (D : DefAt K mg "_law_column" s_law_column ["scope", "spot"]) : Has P w K mg base CX0 1 "_law_column" ["scope", "spot"] (sp0 K TT ds_law_column) := by
  obtain ⟨f, fd, F, hm, hk, hb⟩ := D
  refine ⟨f, fd, F.okD sc_law_column (len_law_column) (fun S cdv A outer s H E hr => ?_), hm, hk, hb⟩
  refine ⟨_, _, (pss_one (ps_ret (pe_callTy call_tupU (by rfl) T.n_tuple (by decide +kernel) (pa_cons (pe_lc (own := [("row", 2)]) (g := gName 2) rfl sc_law_column.nd (pi_tup (pe_dget (hu_of hr) (pv 0) pe_str (fun _ _ => rfl))) (blkOk_by (N := ["scope", "spot", "row"]) (own := [("row", 2)]) (sc := defScope s_law_column) (by decide +kernel)) (fun _ _ _ _ _ => (pg_name (i := 2) sc_law_column.nd rfl (by first | exact Or.inl rfl | exact Or.inr rfl))) (fun _ _ _ _ _ => pts_nil) (fun _ _ _ _ _ => (pe_ix ix_seq (pv 2) (pv 1) (fun _ _ => rfl)))) pa_nil)))),
    (rds_ret (rd_cb cal_tuple (rda_cons (rd_lc (rdj_of (rdi_tup (rd_dget (rd_var (i := 0)) rd_str))) (rdg_name (vs := [2]) (by decide)) rdt_yes (rd_op o2_ix (rd_var (i := 2)) (rd_var (i := 1)))) rda_nil))), ?_⟩
  rintro ss n P ⟨ks, rss, m, rfl, t, hm, p⟩
  walk_at "dl"
  have hl := t.rl
  refine ⟨_, vd_r, ?_⟩
  show _ ∧ _
  refine ⟨by rw [List.length_map]; omega, compM_map (f := fun x => atN x m) (fun x hx n2 k q => ?_) ?_⟩
  · obtain ⟨r, hr2, rfl⟩ := List.mem_map.mp hx
    have e := getD_at (r := r) (m := m) (by rw [(t.rf r hr2).len]; exact hm)
    refine ⟨_, at_nat e, ?_⟩
    have e2 : atN (tupI r) m = .int (r.getD m 0) := by
      show (r.map D.int).getD m .non = _
      rw [List.getD_eq_getElem?_getD, e]
      rfl
    rw [← e2]
    exact q
  · have e : (rss.map tupI).map (fun x => atN x m) = (colL rss m).map D.int := by
      unfold colL
      rw [List.map_map, List.map_map]
      refine List.map_congr_left fun r hr2 => ?_
      show (r.map D.int).getD m .non = D.int (r.getD m 0)
      rw [List.getD_eq_getElem?_getD, getD_at (by rw [(t.rf r hr2).len]; exact hm)]
      rfl
    rw [e]
    exact p

theorem sc_law_used : FnScope ["scope", "spot", "item"] ["scope", "spot"] (defScope s_law_used) := ⟨rfl, rfl, rfl, by decide +kernel, rfl, by decide +kernel, by decide +kernel⟩
theorem ok_law_used (T : Txt K mg cs tk0) (D : DefAt K mg "_law_used" s_law_used ["scope", "spot"]) (c_law_column : Has P w K mg base CX0 1 "_law_column" ["scope", "spot"] (sp0 K TT ds_law_column)) : Has P w K mg base CX0 2 "_law_used" ["scope", "spot"] (sp0 K TT ds_law_used) := by
  obtain ⟨f, fd, F, hm, hk, hb⟩ := D
  obtain ⟨_, _, c_law_column_ok, c_law_column_m, c_law_column_k, c_law_column_b⟩ := c_law_column
  refine ⟨f, fd, F.okD sc_law_used (len_law_used) (fun S cdv A outer s H E hr => ?_), hm, hk, hb⟩
  refine ⟨_, _, (pss_one (ps_ret (pe_callB (cr_sortedSet rfl) (by rfl) T.n_sorted (by decide +kernel) (pa_cons (pe_callTy (SCo.cr_setL rfl) (by rfl) T.n_set (by decide +kernel) (pa_cons (pe_lc (own := [("item", 2)]) (g := gName 2) rfl sc_law_used.nd (pi_tup (pe_call c_law_column_ok (hr.mono (by decide)) rfl c_law_column_m c_law_column_k c_law_column_b .nil pass0 (pa_cons (pv 0) (pa_cons (pv 1) pa_nil)))) (blkOk_by (N := ["scope", "spot", "item"]) (own := [("item", 2)]) (sc := defScope s_law_used) (by decide +kernel)) (fun _ _ _ _ _ => (pg_name (i := 2) sc_law_used.nd rfl (by first | exact Or.inl rfl | exact Or.inr rfl))) (fun _ _ _ _ _ => (pts_one (pt_cmpR op_notN (pv 2) pe_non (nomark _)))) (fun _ _ _ _ _ => (pv 2))) pa_nil)) pa_nil)))),
    (rds_ret (rd_sortSet (rd_lc (rdj_of (rdi_tup (rd_call0 (E := E0) (rda_cons (rd_var (i := 0)) (rda_cons (rd_var (i := 1)) rda_nil))))) (rdg_name (vs := [2]) (by decide)) (rdt_test (rd_op o2_notN (rd_var (i := 2)) rd_non)) (rd_var (i := 2))))), ?_⟩
  rintro ss n P ⟨ks, rss, m, rfl, t, hm, p⟩
  walk_at "dl"
  have hl := t.rl
  refine ⟨ks, rss, m, rfl, t, hm, ?_⟩
  show _ ∧ _
  refine ⟨by unfold colL; rw [List.length_map, List.length_map]; omega, compM_filter (f := some) (fun x hx n2 k q => ?_) ?_⟩
  · obtain ⟨i, _, rfl⟩ := List.mem_map.mp hx
    exact q
  · rw [List.filterMap_some]
    refine ⟨colL rss m, rfl, by unfold colL; rw [List.length_map]; omega, fun us h1 h2 => ?_⟩
    rw [usedL_is t hm h1 fun c => by rw [h2]; unfold colL; rw [List.mem_map]]
    exact p

theorem sc_law_joins : FnScope ["customs_here", "some", "found", "lap", "one", "other"] ["customs_here", "some"] (defScope s_law_joins) := ⟨rfl, rfl, rfl, by decide +kernel, rfl, by decide +kernel, by decide +kernel⟩
theorem ok_law_joins (T : Txt K mg cs tk0) (D : DefAt K mg "_law_joins" s_law_joins ["customs_here", "some"]) : Has P w K mg base CX0 1 "_law_joins" ["customs_here", "some"] (sp0 K TT ds_law_joins) := by
  obtain ⟨f, fd, F, hm, hk, hb⟩ := D
  refine ⟨f, fd, F.okD sc_law_joins (len_law_joins) (fun S cdv A outer s H E hr => ?_), hm, hk, hb⟩
  refine ⟨_, _, (pss_cons (ps_set (i := 2) sc_law_joins.nd rfl (by first | exact Or.inl rfl | exact Or.inr rfl) (pe_slice sl_U (pv 0) po_none (po_some pe_int)))
      (pss_cons (ps_for PassesOwn.never rfl (pi_list (pv 0)) (pg_name (i := 3) sc_law_joins.nd rfl (by first | exact Or.inl rfl | exact Or.inr rfl)) (pss_one (ps_for PassesOwn.never rfl (pi_tup (pv 1)) (pg_tup rfl (pgs_cons (pg_name (i := 4) sc_law_joins.nd rfl (by first | exact Or.inl rfl | exact Or.inr rfl)) (pgs_cons (pg_name (i := 5) sc_law_joins.nd rfl (by first | exact Or.inl rfl | exact Or.inr rfl)) pgs_nil))) (pss_one (ps_if (pt_cmpR (op_neU hr.units) (pe_cmpR (op_inD (hu65_of hr)) (pv 4) (pv 2) (by with_unfolding_all rfl)) (pe_cmpR (op_inD (hu65_of hr)) (pv 5) (pv 2) (by with_unfolding_all rfl)) (nomark _)) (pss_one (ps_set (i := 2) sc_law_joins.nd rfl (by first | exact Or.inl rfl | exact Or.inr rfl) (pe_op SCo.op_catL (pv 2) (pe_lst (pa_cons (pe_ifExp (pt_cmpR (op_inD (hu65_of hr)) (pv 4) (pv 2) (by with_unfolding_all rfl)) (pv 5) (pv 4)) pa_nil))))) pss_nil)))))
      (pss_one (ps_ret (pe_cmpR (op_eqU hr.units) (pe_callB call_lenU (by rfl) T.n_len (by decide +kernel) (pa_cons (pv 2) pa_nil)) (pe_callB call_lenU (by rfl) T.n_len (by decide +kernel) (pa_cons (pv 0) pa_nil)) (nomark _)))))),
    (rds_seq (rds_set (rd_sl (rd_var (i := 0)) rdo_none (rdo_some rd_int)))
      (rds_seq (rds_for (rdi_list (rd_var (i := 0))) (rdg_name (vs := [3]) (by decide)) (rds_for (rdi_tup (rd_var (i := 1))) (rdg_two (vs := [4, 5]) (by decide) (by decide)) (rds_if (rdt_test (rd_op o2_ne (rd_op o2_inLI (rd_var (i := 4)) (rd_var (i := 2))) (rd_op o2_inLI (rd_var (i := 5)) (rd_var (i := 2))))) (rds_set (rd_op o2_addL (rd_var (i := 2)) (rd_lst (rda_cons (rd_if (rdt_test (rd_op o2_inLI (rd_var (i := 4)) (rd_var (i := 2)))) (rd_var (i := 5)) (rd_var (i := 4))) rda_nil)))) rds_next)))
      (rds_ret (rd_op o2_eq (rd_cb cal_len (rda_cons (rd_var (i := 2)) rda_nil)) (rd_cb cal_len (rda_cons (rd_var (i := 0)) rda_nil)))))), ?_⟩
  rintro ss n P ⟨us, ts, rfl, u, tu, p⟩
  have ul := u.l
  have hb := tu.b
  obtain ⟨g, hg⟩ : ∃ g, us[0]? = some g := ⟨us[0], List.getElem?_eq_getElem (by omega)⟩
  have hg2 : us.getD 0 0 = g := by rw [List.getD_eq_getElem?_getD, hg]; rfl
  walk_at "dl"
  have e0 := cut_one hg
  rw [e0]
  refine ⟨fun i ρ n' => n' = n ∧ ∃ (F : List Int) (u3 u4 u5 : SV), ρ = [.d (.lst (us.map D.int)), .d (.tup (ts.map pairI)), .d (.lst (F.map D.int)), u3, u4, u5] ∧ JoinU us (ts.filter fun _ => true) g F ∧ (ClU (ts.filter fun _ => true) F ∨ i + 1 ≤ F.length), ⟨rfl, [g], _, _, _, rfl, joinU_start (List.mem_of_getElem? hg), .inr (by simp)⟩, ?_, ?_⟩
  · rintro i x ρ n' hx ⟨rfl, F0, u3, u4, u5, rfl, b0, h0⟩
    clear hx
    walk_at "dl"
    refine ⟨fun j ρ n2 => n2 = n' ∧ ∃ (F : List Int) (u4 u5 : SV), ρ = [.d (.lst (us.map D.int)), .d (.tup (ts.map pairI)), .d (.lst (F.map D.int)), .d x, u4, u5] ∧ LapU us ts (fun _ => true) g F0 F j, ⟨rfl, F0, _, _, rfl, lapU_start b0⟩, ?_, ?_⟩
    · rintro j y ρ n2 hy ⟨rfl, F, u4, u5, rfl, lap⟩
      rw [List.getElem?_map] at hy
      obtain ⟨q, hq, rfl⟩ := Option.map_eq_some_iff.mp hy
      clear hy
      have hm : q ∈ ts := List.mem_of_getElem? hq
      obtain ⟨a, b⟩ := q
      rw [show pairI (a, b) = D.tup [.int a, .int b] from rfl]
      walk_at "dl"
      have fl := joinU_len lap.b
      refine ⟨_, rfl, _, rfl, _, rfl, _, rfl, ?_⟩
      rw [any_in, any_in]
      by_cases ha : a ∈ F <;> by_cases hb' : b ∈ F
      · rw [decide_eq_true ha, decide_eq_true hb']
        exact ⟨F, _, _, rfl, lapU_keep lap hq fun _ => ⟨fun _ => hb', fun _ => ha⟩⟩
      · rw [decide_eq_true ha, decide_eq_false hb']
        refine ⟨_, rfl, _, rfl, ?_⟩
        rw [any_in, decide_eq_true ha]
        exact ⟨by rw [List.length_map]; omega, F ++ [b], _, _, by rw [List.map_append]; rfl, lapU_add lap hm rfl (hb _ hm).2 (.inr rfl) ha hb'⟩
      · rw [decide_eq_false ha, decide_eq_true hb']
        refine ⟨_, rfl, _, rfl, ?_⟩
        rw [any_in, decide_eq_false ha]
        exact ⟨by rw [List.length_map]; omega, F ++ [a], _, _, by rw [List.map_append]; rfl, lapU_add lap hm rfl (hb _ hm).1 (.inl rfl) hb' ha⟩
      · rw [decide_eq_false ha, decide_eq_false hb']
        exact ⟨F, _, _, rfl, lapU_keep lap hq fun _ => ⟨fun z => absurd z ha, fun z => absurd z hb'⟩⟩
    · rintro ρ n2 ⟨rfl, F, u4, u5, rfl, lap⟩
      rw [List.length_map] at lap
      exact ⟨rfl, F, _, _, _, rfl, lap.b, lapU_end lap h0⟩
  · rintro ρ n' ⟨rfl, F, u3, u4, u5, rfl, b, h⟩
    rw [List.length_map] at h
    walk_at "dl"
    rw [List.length_map, List.length_map]
    rw [filter_yes] at b h
    rw [conn_lenU u.nd b.nd b.rng fun c => by rw [hg2]; exact joinU_near hb u.nd b (h.imp id fun z => by omega) c] at p
    rw [show decide ((F.length : Int) = (us.length : Int)) = decide (F.length = us.length) from decide_eq_decide.mpr (by omega)]
    exact p

theorem sc_law_side : FnScope ["column_here", "some", "pair", "found", "lap", "one", "other", "valley_here", "item"] ["column_here", "some", "pair"] (defScope s_law_side) := ⟨rfl, rfl, rfl, by decide +kernel, rfl, by decide +kernel, by decide +kernel⟩
theorem ok_law_side (T : Txt K mg cs tk0) (D : DefAt K mg "_law_side" s_law_side ["column_here", "some", "pair"]) : Has P w K mg base CX0 1 "_law_side" ["column_here", "some", "pair"] (sp0 K TT ds_law_side) := by
  obtain ⟨f, fd, F, hm, hk, hb⟩ := D
  refine ⟨f, fd, F.okD sc_law_side (len_law_side) (fun S cdv A outer s H E hr => ?_), hm, hk, hb⟩
  refine ⟨_, _, (pss_cons (ps_set (i := 3) sc_law_side.nd rfl (by first | exact Or.inl rfl | exact Or.inr rfl) (pe_lst (pa_cons (pe_ix ix_seq (pv 0) pe_int (fun _ _ => rfl)) pa_nil)))
      (pss_cons (ps_for PassesOwn.never rfl (pi_tup (pv 1)) (pg_name (i := 4) sc_law_side.nd rfl (by first | exact Or.inl rfl | exact Or.inr rfl)) (pss_one (ps_for PassesOwn.never rfl (pi_tup (pv 1)) (pg_tup rfl (pgs_cons (pg_name (i := 5) sc_law_side.nd rfl (by first | exact Or.inl rfl | exact Or.inr rfl)) (pgs_cons (pg_name (i := 6) sc_law_side.nd rfl (by first | exact Or.inl rfl | exact Or.inr rfl)) pgs_nil))) (pss_one (ps_if (PW.pt (pw_and (pt_cmpR (op_neU hr.units) (pe_tup (pa_cons (pv 5) (pa_cons (pv 6) pa_nil))) (pv 2) (nomark _)) (pw_and1 (pt_cmpR (op_neU hr.units) (pe_cmpR (op_inD (hu65_of hr)) (pv 5) (pv 3) (by with_unfolding_all rfl)) (pe_cmpR (op_inD (hu65_of hr)) (pv 6) (pv 3) (by with_unfolding_all rfl)) (nomark _))))) (pss_one (ps_set (i := 3) sc_law_side.nd rfl (by first | exact Or.inl rfl | exact Or.inr rfl) (pe_op SCo.op_catL (pv 3) (pe_lst (pa_cons (pe_ifExp (pt_cmpR (op_inD (hu65_of hr)) (pv 5) (pv 3) (by with_unfolding_all rfl)) (pv 6) (pv 5)) pa_nil))))) pss_nil)))))
      (pss_one (ps_ret (pe_callTy call_tupU (by rfl) T.n_tuple (by decide +kernel) (pa_cons (pe_lc (own := [("valley_here", 7), ("item", 8)]) (g := gTup _ 2 (gCons (gName 7) (gCons (gName 8) gNil))) rfl sc_law_side.nd (RZ.pi_enumA (by rfl) T.n_enumerate (pa_cons (pv 0) pa_nil)) (blkOk_by (N := ["column_here", "some", "pair", "found", "lap", "one", "other", "valley_here", "item"]) (own := [("valley_here", 7), ("item", 8)]) (sc := defScope s_law_side) (by decide +kernel)) (fun _ _ _ _ _ => (pg_tup rfl (pgs_cons (pg_name (i := 7) sc_law_side.nd rfl (by first | exact Or.inl rfl | exact Or.inr rfl)) (pgs_cons (pg_name (i := 8) sc_law_side.nd rfl (by first | exact Or.inl rfl | exact Or.inr rfl)) pgs_nil)))) (fun _ _ _ _ _ => (pts_one (pt_cmpR (op_notInD (hu65_of hr)) (pv 8) (pv 3) (by with_unfolding_all rfl)))) (fun _ _ _ _ _ => (pv 7))) pa_nil)))))),
    (rds_seq (rds_set (rd_lst (rda_cons (rd_op o2_ix (rd_var (i := 0)) rd_int) rda_nil)))
      (rds_seq (rds_for (rdi_tup (rd_var (i := 1))) (rdg_name (vs := [4]) (by decide)) (rds_for (rdi_tup (rd_var (i := 1))) (rdg_two (vs := [5, 6]) (by decide) (by decide)) (rds_if (rdt_and (rdt_test (rd_op o2_ne (rd_tup (rda_cons (rd_var (i := 5)) (rda_cons (rd_var (i := 6)) rda_nil))) (rd_var (i := 2)))) (rdt_test (rd_op o2_ne (rd_op o2_inLI (rd_var (i := 5)) (rd_var (i := 3))) (rd_op o2_inLI (rd_var (i := 6)) (rd_var (i := 3)))))) (rds_set (rd_op o2_addL (rd_var (i := 3)) (rd_lst (rda_cons (rd_if (rdt_test (rd_op o2_inLI (rd_var (i := 5)) (rd_var (i := 3)))) (rd_var (i := 6)) (rd_var (i := 5))) rda_nil)))) rds_next)))
      (rds_ret (rd_cb cal_tuple (rda_cons (rd_lc (rdj_of (rdi_enum (rda_cons (rd_var (i := 0)) rda_nil))) (rdg_two (vs := [7, 8]) (by decide) (by decide)) (rdt_test (rd_op o2_notInLI (rd_var (i := 8)) (rd_var (i := 3)))) (rd_var (i := 7))) rda_nil))))), ?_⟩
  rintro ss n P ⟨us, col, ts, e, rfl, u, c, c1, c12, hc, p⟩
  have ul := u.l
  have cl := c.l
  have hb := (c.tsU u).b
  obtain ⟨g, hg⟩ : ∃ g, col[0]? = some g := ⟨col[0], List.getElem?_eq_getElem (by omega)⟩
  have hg2 : col.getD 0 0 = g := by rw [List.getD_eq_getElem?_getD, hg]; rfl
  have hgu : g ∈ us := hc g (List.mem_of_getElem? hg)
  walk_at "dl"
  refine ⟨.int g, at_nat (j := 0) (by rw [List.getElem?_map, hg]; rfl), ?_⟩
  refine ⟨fun i ρ n' => n' = n ∧ ∃ (F : List Int) (u4 u5 u6 u7 u8 : SV), ρ = [.d (tupI col), .d (.tup (ts.map pairI)), .d (pairI e), .d (.lst (F.map D.int)), u4, u5, u6, u7, u8] ∧ JoinU us (ts.filter fun t => decide (t ≠ e)) g F ∧ (ClU (ts.filter fun t => decide (t ≠ e)) F ∨ i + 1 ≤ F.length), ⟨rfl, [g], _, _, _, _, _, rfl, joinU_start hgu, .inr (by simp)⟩, ?_, ?_⟩
  · rintro i x ρ n' hx ⟨rfl, F0, u4, u5, u6, u7, u8, rfl, b0, h0⟩
    clear hx
    walk_at "dl"
    refine ⟨fun j ρ n2 => n2 = n' ∧ ∃ (F : List Int) (u5 u6 u7 u8 : SV), ρ = [.d (tupI col), .d (.tup (ts.map pairI)), .d (pairI e), .d (.lst (F.map D.int)), .d x, u5, u6, u7, u8] ∧ LapU us ts (fun t => decide (t ≠ e)) g F0 F j, ⟨rfl, F0, _, _, _, _, rfl, lapU_start b0⟩, ?_, ?_⟩
    · rintro j y ρ n2 hy ⟨rfl, F, u5, u6, u7, u8, rfl, lap⟩
      rw [List.getElem?_map] at hy
      obtain ⟨q, hq, rfl⟩ := Option.map_eq_some_iff.mp hy
      clear hy
      have hm : q ∈ ts := List.mem_of_getElem? hq
      obtain ⟨a, b⟩ := q
      rw [show pairI (a, b) = D.tup [.int a, .int b] from rfl]
      walk_at "dl"
      have fl := joinU_len lap.b
      refine eqP_intsU (a := [a, b]) (b := [e.1, e.2]) ?_
      rw [show decide ([a, b] = [e.1, e.2]) = decide ((a, b) = e) from pair_eq (a := (a, b))]
      by_cases hne : (a, b) = e
      · rw [decide_eq_true hne]
        exact ⟨F, _, _, _, _, rfl, lapU_keep lap hq fun z => absurd hne (of_decide_eq_true z)⟩
      rw [decide_eq_false hne]
      have hpt : decide ((a, b) ≠ e) = true := decide_eq_true hne
      refine ⟨_, rfl, _, rfl, _, rfl, _, rfl, ?_⟩
      rw [any_in, any_in]
      by_cases ha : a ∈ F <;> by_cases hb' : b ∈ F
      · rw [decide_eq_true ha, decide_eq_true hb']
        exact ⟨F, _, _, _, _, rfl, lapU_keep lap hq fun _ => ⟨fun _ => hb', fun _ => ha⟩⟩
      · rw [decide_eq_true ha, decide_eq_false hb']
        refine ⟨_, rfl, _, rfl, ?_⟩
        rw [any_in, decide_eq_true ha]
        exact ⟨by rw [List.length_map]; omega, F ++ [b], _, _, _, _, by rw [List.map_append]; rfl, lapU_add lap hm hpt (hb _ hm).2 (.inr rfl) ha hb'⟩
      · rw [decide_eq_false ha, decide_eq_true hb']
        refine ⟨_, rfl, _, rfl, ?_⟩
        rw [any_in, decide_eq_false ha]
        exact ⟨by rw [List.length_map]; omega, F ++ [a], _, _, _, _, by rw [List.map_append]; rfl, lapU_add lap hm hpt (hb _ hm).1 (.inl rfl) hb' ha⟩
      · rw [decide_eq_false ha, decide_eq_false hb']
        exact ⟨F, _, _, _, _, rfl, lapU_keep lap hq fun _ => ⟨fun z => absurd z ha, fun z => absurd z hb'⟩⟩
    · rintro ρ n2 ⟨rfl, F, u5, u6, u7, u8, rfl, lap⟩
      rw [List.length_map] at lap
      exact ⟨rfl, F, _, _, _, _, _, rfl, lap.b, lapU_end lap h0⟩
  · rintro ρ n' ⟨rfl, F, u4, u5, u6, u7, u8, rfl, b, h⟩
    rw [List.length_map] at h
    have near := joinU_near (fun t ht => hb t (List.mem_filter.mp ht).1) u.nd b (h.imp id fun z => by omega)
    walk_at "dl"
    show _ ∧ _
    refine ⟨by rw [enumD_len, List.length_map]; omega, compM_filter (f := farI F) (fun x hx n2 k q => ?_) ?_⟩
    · obtain ⟨i, hi⟩ := List.mem_iff_getElem?.mp hx
      rw [enumD_get, List.getElem?_map] at hi
      obtain ⟨r0, hr0, rfl⟩ := Option.map_eq_some_iff.mp hi
      obtain ⟨v, hr, rfl⟩ := Option.map_eq_some_iff.mp hr0
      have q' : k (if !decide (v ∈ F) then some (.int ((0 + i : Nat) : Int)) else none) n2 := q
      refine ⟨v, rfl, F, rfl, ?_⟩
      rw [any_in]
      cases z : decide (v ∈ F) <;> rw [z] at q' <;> simpa using q'
    · rw [farI_map]
      have e3 : ((List.range col.length).filter fun v => !decide (col.getD v 0 ∈ F)).map natD = (partC ts col e).map D.int := by
        unfold partC
        rw [List.map_map, hg2]
        refine congrArg _ (List.filter_congr fun v _ => ?_)
        rw [near]
      rw [e3]
      exact p

theorem sc_law_sides : FnScope ["column_here", "some", "pair"] ["column_here", "some"] (defScope s_law_sides) := ⟨rfl, rfl, rfl, by decide +kernel, rfl, by decide +kernel, by decide +kernel⟩
theorem ok_law_sides (T : Txt K mg cs tk0) (D : DefAt K mg "_law_sides" s_law_sides ["column_here", "some"]) (c_law_side : Has P w K mg base CX0 1 "_law_side" ["column_here", "some", "pair"] (sp0 K TT ds_law_side)) : Has P w K mg base CX0 2 "_law_sides" ["column_here", "some"] (sp0 K TT ds_law_sides) := by
  obtain ⟨f, fd, F, hm, hk, hb⟩ := D
  obtain ⟨_, _, c_law_side_ok, c_law_side_m, c_law_side_k, c_law_side_b⟩ := c_law_side
  refine ⟨f, fd, F.okD sc_law_sides (len_law_sides) (fun S cdv A outer s H E hr => ?_), hm, hk, hb⟩
  refine ⟨_, _, (pss_one (ps_ret (pe_lc (own := [("pair", 2)]) (g := gName 2) rfl sc_law_sides.nd (pi_tup (pv 1)) (blkOk_by (N := ["column_here", "some", "pair"]) (own := [("pair", 2)]) (sc := defScope s_law_sides) (by decide +kernel)) (fun _ _ _ _ _ => (pg_name (i := 2) sc_law_sides.nd rfl (by first | exact Or.inl rfl | exact Or.inr rfl))) (fun _ _ _ _ _ => pts_nil) (fun _ _ _ _ _ => (pe_call c_law_side_ok (hr.mono (by decide)) rfl c_law_side_m c_law_side_k c_law_side_b .nil pass0 (pa_cons (pv 0) (pa_cons (pv 1) (pa_cons (pv 2) pa_nil)))))))),
    (rds_ret (rd_lc (rdj_of (rdi_tup (rd_var (i := 1)))) (rdg_name (vs := [2]) (by decide)) rdt_yes (rd_call0 (E := E0) (rda_cons (rd_var (i := 0)) (rda_cons (rd_var (i := 1)) (rda_cons (rd_var (i := 2)) rda_nil)))))), ?_⟩
  rintro ss n P ⟨us, col, ts, rfl, u, c, c1, c12, hc, p⟩
  have ul := u.l
  have cl := c.l
  walk_at "dl"
  refine ⟨by rw [List.length_map]; omega, compM_map (f := fun x => tupI (partC ts col (pairD x))) (fun x hx n2 k q => ?_) ?_⟩
  · obtain ⟨e, he, rfl⟩ := List.mem_map.mp hx
    rw [pairD_at] at q
    exact ⟨us, col, ts, e, rfl, u, c, c1, c12, hc, q⟩
  · have e : (ts.map pairI).map (fun x => tupI (partC ts col (pairD x))) = (sidesC ts col).map tupI := by
      unfold sidesC
      rw [List.map_map, List.map_map]
      exact List.map_congr_left fun e _ => by
        show tupI (partC ts col (pairD (pairI e))) = _
        rw [pairD_at]
        rfl
    rw [e]
    exact p

theorem sc_law_agree : FnScope ["one", "other", "first", "second"] ["one", "other"] (defScope s_law_agree) := ⟨rfl, rfl, rfl, by decide +kernel, rfl, by decide +kernel, by decide +kernel⟩
theorem ok_law_agree (T : Txt K mg cs tk0) (D : DefAt K mg "_law_agree" s_law_agree ["one", "other"]) (c_law_crosses : Has P w K mg base CX0 1 "_law_crosses" ["one", "other"] (sp0 K TT ds_law_crosses)) : Has P w K mg base CX0 2 "_law_agree" ["one", "other"] (sp0 K TT ds_law_agree) := by
  obtain ⟨f, fd, F, hm, hk, hb⟩ := D
  obtain ⟨_, _, c_law_crosses_ok, c_law_crosses_m, c_law_crosses_k, c_law_crosses_b⟩ := c_law_crosses
  refine ⟨f, fd, F.okD sc_law_agree (len_law_agree) (fun S cdv A outer s H E hr => ?_), hm, hk, hb⟩
  refine ⟨_, _, (pss_cons (ps_for PassesOwn.never rfl (pi_list (pv 0)) (pg_name (i := 2) sc_law_agree.nd rfl (by first | exact Or.inl rfl | exact Or.inr rfl)) (pss_one (ps_if (pt_cmpR (op_neNil hr.units) (pe_lc (own := [("second", 3)]) (g := gName 3) rfl sc_law_agree.nd (pi_list (pv 1)) (blkOk_by (N := ["one", "other", "first", "second"]) (own := [("second", 3)]) (sc := defScope s_law_agree) (by decide +kernel)) (fun _ _ _ _ _ => (pg_name (i := 3) sc_law_agree.nd rfl (by first | exact Or.inl rfl | exact Or.inr rfl))) (fun _ _ _ _ _ => (pts_one (pt_val (pe_call c_law_crosses_ok (hr.mono (by decide)) rfl c_law_crosses_m c_law_crosses_k c_law_crosses_b .nil pass0 (pa_cons (pv 2) (pa_cons (pv 3) pa_nil)))))) (fun _ _ _ _ _ => pe_int)) (pe_lst pa_nil) (nomark _)) (pss_one (ps_ret pe_bl)) pss_nil)))
      (pss_one (ps_ret pe_bl))),
    (rds_seq (rds_for (rdi_list (rd_var (i := 0))) (rdg_name (vs := [2]) (by decide)) (rds_if (rdt_test (rd_op o2_neNil (rd_lc (rdj_of (rdi_list (rd_var (i := 1)))) (rdg_name (vs := [3]) (by decide)) (rdt_B (rd_call0 (E := E0) (rda_cons (rd_var (i := 2)) (rda_cons (rd_var (i := 3)) rda_nil)))) rd_int) (rd_lst rda_nil))) (rds_ret rd_bl) rds_next))
      (rds_ret rd_bl)), ?_⟩
  rintro ss n P ⟨xs, ys, rfl, hx, hy, lx, ly, p⟩
  walk_at "dl"
  refine ⟨fun i ρ n' => n' = n ∧ ∃ u v, ρ = [.d (.lst (xs.map tupI)), .d (.lst (ys.map tupI)), u, v] ∧ ∀ a ∈ xs.take i, (ys.all fun b => !crossB a b) = true, ⟨rfl, _, _, rfl, fun a ha => by simp at ha⟩, ?_, ?_⟩
  · rintro i x ρ n' hx1 ⟨rfl, u, v, rfl, h⟩
    rw [List.getElem?_map] at hx1
    obtain ⟨a, ha, rfl⟩ := Option.map_eq_some_iff.mp hx1
    have la := hx a (List.mem_of_getElem? ha)
    show _ ∧ _
    refine ⟨by rw [List.length_map]; omega, compM_filter (f := fun y => if crossB a (intsD y) = true then some (.int 1) else none) (fun y hy1 n2 k q => ?_) ?_⟩
    · obtain ⟨b, hb, rfl⟩ := List.mem_map.mp hy1
      rw [intsD_tup] at q
      refine ⟨a, b, rfl, la, hy b hb, ?_⟩
      cases e : crossB a b with
      | true => rw [e] at q; exact q
      | false => rw [e] at q; exact q
    · have e : ((ys.map tupI).filterMap fun y => if crossB a (intsD y) = true then some (D.int 1) else none).isEmpty = ys.all fun b => !crossB a b := by
        clear hy ly p h
        induction ys with
        | nil => rfl
        | cons b ys ih =>
          rw [List.map_cons, List.filterMap_cons, List.all_cons, intsD_tup]
          cases e : crossB a b with
          | true => rfl
          | false => exact ih
      rw [e]
      cases e2 : ys.all fun b => !crossB a b with
      | false =>
        show P (.bl false) _
        have z : agreeB xs ys = false := Bool.eq_false_iff.mpr fun z => by
          have := List.all_eq_true.mp z a (List.mem_of_getElem? ha)
          rw [e2] at this
          cases this
        rw [z] at p
        exact p
      | true =>
        refine ⟨rfl, _, _, rfl, fun c hc => ?_⟩
        rw [List.take_add_one, ha] at hc
        rcases List.mem_append.mp hc with hc | hc
        · exact h c hc
        · simp at hc
          rw [hc]
          exact e2
  · rintro ρ n' ⟨rfl, u, v, rfl, h⟩
    rw [List.length_map, List.take_length] at h
    have z : agreeB xs ys = true := List.all_eq_true.mpr h
    rw [z] at p
    exact p

theorem sc_custom_trees : FnScope ["table", "matter", "customs", "pairs", "tree"] ["table", "matter"] (defScope s_custom_trees) := ⟨rfl, rfl, rfl, by decide +kernel, rfl, by decide +kernel, by decide +kernel⟩
theorem ok_custom_trees (T : Txt K mg cs tk0) (D : DefAt K mg "custom_trees" s_custom_trees ["table", "matter"]) (c_check_full : Has P w K mg base (L2.CX P w) 3 "check_full" ["table"] (spX K TT (ds_check_full cs))) (c_used : Has P w K mg base (L2.CX P w) 4 "used" ["table", "matter"] (spX K TT (ds_used cs))) (c_do_join : Has P w K mg base CX0 3 "_do_join" ["pairs", "customs"] (sp0 K TT ds_do_join)) : Has P w K mg base (L2.CX P w) 5 "custom_trees" ["table", "matter"] (spO K TT (ds_custom_trees cs)) := by
  obtain ⟨f, fd, F, hm, hk, hb⟩ := D
  obtain ⟨_, _, c_check_full_ok, c_check_full_m, c_check_full_k, c_check_full_b⟩ := c_check_full
  obtain ⟨_, _, c_used_ok, c_used_m, c_used_k, c_used_b⟩ := c_used
  obtain ⟨_, _, c_do_join_ok, c_do_join_m, c_do_join_k, c_do_join_b⟩ := c_do_join
  refine ⟨f, fd, F.okXO sc_custom_trees (len_custom_trees cs) (fun S cdv A outer s H E hr => ?_), hm, hk, hb⟩
  have tk := takes_of (X := cxOf (L2.CX P w) P w K mg base ["table", "matter", "customs", "pairs", "tree"] "custom_trees" (defScope s_custom_trees) f cdv A outer s H E) (E := E) rfl rfl rfl rfl
  refine ⟨_, _, (pss_cons (ps_expr (pe_call c_check_full_ok (hr.mono (by decide)) rfl c_check_full_m c_check_full_k c_check_full_b .nil (passes_call tk (fun _ _ _ _ h => h)) (pa_cons (pv 0) pa_nil)))
      (pss_cons (ps_set (i := 2) sc_custom_trees.nd rfl (by first | exact Or.inl rfl | exact Or.inr rfl) (pe_call c_used_ok (hr.mono (by decide)) rfl c_used_m c_used_k c_used_b .nil (passes_call tk (fun _ _ _ _ h => h)) (pa_cons (pv 0) (pa_cons (pv 1) pa_nil))))
      (pss_cons (ps_set (i := 3) sc_custom_trees.nd rfl (by first | exact Or.inl rfl | exact Or.inr rfl) (RZ.pe_listComb (by rfl) T.n_list (by rfl) T.m_combinations (pa_cons (pe_callTy call_rListU (by rfl) T.n_list (by decide +kernel) (pa_cons (pv 2) pa_nil)) (pa_cons pe_int pa_nil))))
      (pss_one (ps_ret (pe_lc (own := [("tree", 4)]) (g := gName 4) rfl sc_custom_trees.nd (RZ.pi_combN (by rfl) T.m_combinations (pa_cons (pv 3) (pa_cons (pe_callB call_lenU (by rfl) T.n_len (by decide +kernel) (pa_cons (pe_slice sl_U (pv 2) (po_some pe_int) po_none) pa_nil)) pa_nil))) (blkOk_by (N := ["table", "matter", "customs", "pairs", "tree"]) (own := [("tree", 4)]) (sc := defScope s_custom_trees) (by decide +kernel)) (fun _ _ _ _ _ => (pg_name (i := 4) sc_custom_trees.nd rfl (by first | exact Or.inl rfl | exact Or.inr rfl))) (fun _ _ _ _ _ => (pts_one (pt_val (pe_call c_do_join_ok (hr.mono (by decide)) rfl c_do_join_m c_do_join_k c_do_join_b .nil pass0 (pa_cons (pv 4) (pa_cons (pv 2) pa_nil)))))) (fun _ _ _ _ _ => (pv 4)))))))),
    (rdso_seq (rds_drop (rd_callX (rda_cons (rd_var (i := 0)) rda_nil)))
      (rdso_seq (rds_set (rd_callX (rda_cons (rd_var (i := 0)) (rda_cons (rd_var (i := 1)) rda_nil))))
      (rdso_seq (rds_set (rd_listComb (rda_cons (rd_cb cal_list (rda_cons (rd_var (i := 2)) rda_nil)) (rda_cons rd_int rda_nil))))
      (rdso_ret (rdn_lc (rdj_of (rdi_combN (rda_cons (rd_var (i := 3)) (rda_cons (rd_cb cal_len (rda_cons (rd_sl (rd_var (i := 2)) (rdo_some rd_int) rdo_none) rda_nil)) rda_nil)))) (rdg_name (vs := [4]) (by decide)) (rdt_B (rd_call0 (E := E0) (rda_cons (rd_var (i := 4)) (rda_cons (rd_var (i := 2)) rda_nil)))) (rd_var (i := 4))))))), ?_⟩
  rintro ss n P XP ⟨d, v, rfl, xv, h⟩
  walk_at "dl"
  rcases h with ⟨xd, ni, p⟩ | ⟨ks, rs, t, rfl, p⟩ | ⟨ks, rss, rfl, t, h⟩
  · exact ⟨_, rfl, .inl ⟨xd, ni, p⟩⟩
  · exact ⟨_, rfl, .inr (.inr ⟨ks, rs, t, rfl, p⟩)⟩
  refine ⟨_, rfl, .inr (.inl ⟨ks, rss, t, rfl, ?_⟩)⟩
  rcases h with ⟨hb, p⟩ | ⟨m, rfl, hm, p⟩
  · exact ⟨_, _, rfl, xv, .inr ⟨ks, rss, rfl, t, .inl ⟨hb, p⟩⟩⟩
  refine ⟨_, _, rfl, rfl, .inr ⟨ks, rss, rfl, t, .inr ⟨m, rfl, hm, ?_⟩⟩⟩
  have u := usedL_ok t hm
  have ul := u.l
  generalize usedL rss m = us at p u ul ⊢
  have e2 : combT (Int.toNat 2) (us.map D.int) = (pairsL us).map pairI := combT_pairs us
  show _ ∧ _ ∧ _ ∧ _
  rw [e2]
  have l15 := pairs_few (us := us) (by omega)
  refine ⟨by decide, by decide, by rw [List.length_map]; omega, ?_⟩
  have e1 : cutD (us.map D.int) (some 1) none = (us.map D.int).drop 1 := cut_from1 (i := 0)
  show _ ∧ _ ∧ _ ∧ _
  rw [e1]
  have el : (((us.map D.int).drop 1).length : Int) = ((us.length - 1 : Nat) : Int) := by rw [List.length_drop, List.length_map]
  rw [el, Int.toNat_natCast, combT_ties]
  refine ⟨by omega, by omega, by rw [List.length_map]; have := combs_len6 (us := us) (by omega) (us.length - 1); omega, compM_filter (f := joinF us) (fun x hx n2 k q => ?_) ?_⟩
  · obtain ⟨ts, hts, rfl⟩ := List.mem_map.mp hx
    have hl := combsL_len hts
    have hb : ∀ t ∈ ts, t.1 ∈ us ∧ t.2 ∈ us := fun t ht => pairs_in ((combsL_sub hts).subset ht)
    refine ⟨us, ts, rfl, u, ⟨by omega, by omega, hb⟩, ?_⟩
    rw [joinC_eq u.nd (by omega) hb]
    have e : joinF us (tieD ts) = if joinC us ts = true then some (tieD ts) else none := by
      show (if joinC us ((ts.map pairI).map pairD) = true then some (tieD ts) else none) = _
      rw [pairD_map]
    rw [e] at q
    cases hj : joinC us ts with
    | true => rw [hj] at q; exact q
    | false => rw [hj] at q; exact q
  · rw [joinF_map]
    exact p

theorem sc_law_custom_trees : FnScope ["customs_here", "found", "lap", "longer", "some", "pair"] ["customs_here"] (defScope s_law_custom_trees) := ⟨rfl, rfl, rfl, by decide +kernel, rfl, by decide +kernel, by decide +kernel⟩
theorem ok_law_custom_trees (T : Txt K mg cs tk0) (D : DefAt K mg "_law_custom_trees" s_law_custom_trees ["customs_here"]) (c_law_pairs : Has P w K mg base CX0 1 "_law_pairs" ["several"] (sp0 K TT ds_law_pairs)) (c_law_joins : Has P w K mg base CX0 1 "_law_joins" ["customs_here", "some"] (sp0 K TT ds_law_joins)) : Has P w K mg base CX0 2 "_law_custom_trees" ["customs_here"] (sp0 K TT ds_law_custom_trees) := by
  obtain ⟨f, fd, F, hm, hk, hb⟩ := D
  obtain ⟨_, _, c_law_pairs_ok, c_law_pairs_m, c_law_pairs_k, c_law_pairs_b⟩ := c_law_pairs
  obtain ⟨_, _, c_law_joins_ok, c_law_joins_m, c_law_joins_k, c_law_joins_b⟩ := c_law_joins
  refine ⟨f, fd, F.okD sc_law_custom_trees (len_law_custom_trees) (fun S cdv A outer s H E hr => ?_), hm, hk, hb⟩
  refine ⟨_, _, (pss_cons (ps_set (i := 1) sc_law_custom_trees.nd rfl (by first | exact Or.inl rfl | exact Or.inr rfl) (pe_lst (pa_cons (pe_tup pa_nil) pa_nil)))
      (pss_cons (ps_for PassesOwn.never rfl (pi_range1 (by rfl) T.n_range (pa_cons (pe_op op_sub (pe_callB call_lenU (by rfl) T.n_len (by decide +kernel) (pa_cons (pv 0) pa_nil)) pe_int) pa_nil)) (pg_name (i := 2) sc_law_custom_trees.nd rfl (by first | exact Or.inl rfl | exact Or.inr rfl)) (pss_cons (ps_set (i := 3) sc_law_custom_trees.nd rfl (by first | exact Or.inl rfl | exact Or.inr rfl) (pe_lst pa_nil))
      (pss_cons (ps_for PassesOwn.never rfl (pi_list (pv 1)) (pg_name (i := 4) sc_law_custom_trees.nd rfl (by first | exact Or.inl rfl | exact Or.inr rfl)) (pss_one (ps_expr (pe_bm PySem.F.plainAttrs_list PySem.F.slot_list_extend PySem.F.type_list_extend mt_extend (pv 3) (pa_cons (pe_lc (own := [("pair", 5)]) (g := gName 5) rfl sc_law_custom_trees.nd (pi_list (pe_call c_law_pairs_ok (hr.mono (by decide)) rfl c_law_pairs_m c_law_pairs_k c_law_pairs_b .nil pass0 (pa_cons (pv 0) pa_nil))) (blkOk_by (N := ["customs_here", "found", "lap", "longer", "some", "pair"]) (own := [("pair", 5)]) (sc := defScope s_law_custom_trees) (by decide +kernel)) (fun _ _ _ _ _ => (pg_name (i := 5) sc_law_custom_trees.nd rfl (by first | exact Or.inl rfl | exact Or.inr rfl))) (fun _ _ _ _ _ => (pts_one (PW.pt (pw_or (pt_cmpR (RZ.op_eqNilT hr.units) (pv 4) (pe_tup pa_nil) (nomark _)) (pw_or1 (pt_cmpR (SCo.op_ltU hr.units0) (pe_ix ix_seq (pv 4) (pe_un un_neg pe_int) (fun _ _ => rfl)) (pv 5) (nomark _))))))) (fun _ _ _ _ _ => (pe_op op_addU (pv 4) (pe_tup (pa_cons (pv 5) pa_nil))))) pa_nil)))))
      (pss_one (ps_set (i := 1) sc_law_custom_trees.nd rfl (by first | exact Or.inl rfl | exact Or.inr rfl) (pv 3))))))
      (pss_one (ps_ret (pe_lc (own := [("some", 4)]) (g := gName 4) rfl sc_law_custom_trees.nd (pi_list (pv 1)) (blkOk_by (N := ["customs_here", "found", "lap", "longer", "some", "pair"]) (own := [("some", 4)]) (sc := defScope s_law_custom_trees) (by decide +kernel)) (fun _ _ _ _ _ => (pg_name (i := 4) sc_law_custom_trees.nd rfl (by first | exact Or.inl rfl | exact Or.inr rfl))) (fun _ _ _ _ _ => (pts_one (pt_val (pe_call c_law_joins_ok (hr.mono (by decide)) rfl c_law_joins_m c_law_joins_k c_law_joins_b .nil pass0 (pa_cons (pv 0) (pa_cons (pv 4) pa_nil)))))) (fun _ _ _ _ _ => (pv 4))))))),
    (rds_seq (rds_set (rd_lst (rda_cons (rd_tup rda_nil) rda_nil)))
      (rds_seq (rds_for (rdi_range1 (rda_cons (rd_op o2_sub (rd_cb cal_len (rda_cons (rd_var (i := 0)) rda_nil)) rd_int) rda_nil)) (rdg_name (vs := [2]) (by decide)) (rds_seq (rds_setO rdn_nil)
      (rds_seq (rds_for (rdi_list (rd_var (i := 1))) (rdg_name (vs := [4]) (by decide)) (rds_extO (i := 3) (rdn_lc (rdj_of (rdi_list (rd_call0 (E := E0) (rda_cons (rd_var (i := 0)) rda_nil)))) (rdg_name (vs := [5]) (by decide)) (rdt_or (rdt_test (rd_op o2_eqNilT (rd_var (i := 4)) (rd_tup rda_nil))) (rdt_test (rd_op o2_ltU (rd_op o2_ix (rd_var (i := 4)) (rd_un o1_neg rd_int)) (rd_var (i := 5))))) (rd_op o2_add (rd_var (i := 4)) (rd_tup (rda_cons (rd_var (i := 5)) rda_nil))))))
      (rds_frz (i := 3) (rds_set (rd_var (i := 3)))))))
      (rds_ret (rd_lc (rdj_of (rdi_list (rd_var (i := 1)))) (rdg_name (vs := [4]) (by decide)) (rdt_B (rd_call0 (E := E0) (rda_cons (rd_var (i := 0)) (rda_cons (rd_var (i := 4)) rda_nil)))) (rd_var (i := 4)))))), ?_⟩
  rintro ss n P ⟨us, rfl, u, u5, p⟩
  walk_at "dl"
  have ul := u.l
  have e0 : ((us.map D.int).length : Int) - 1 = ((us.length - 1 : Nat) : Int) := by rw [List.length_map]; omega
  rw [e0, Int.toNat_natCast]
  have asc := pairs_asc u.p
  have pD := pairsD_int us
  have l10 := pairs_few5 u5
  refine ⟨by omega, by omega, fun i ρ n' => n' = n ∧ ∃ (u2 u3 u4 u5 : SV), ρ = [.d (.lst (us.map D.int)), .d (.lst ((combsL i (pairsL us)).map tieD)), u2, u3, u4, u5], ⟨rfl, _, _, _, _, by rw [combsL]; rfl⟩, ?_, ?_⟩
  · rintro i x ρ n' hx ⟨rfl, v2, v3, v4, v5, rfl⟩
    clear hx
    walk_at "dl"
    have total := combs_len5 u5 (i + 1)
    rw [← grow_combs i asc] at total
    refine ⟨fun j ρ n2 => n2 = n' ∧ ∃ (u4 u5 : SV), ρ = [.d (.lst (us.map D.int)), .d (.lst ((combsL i (pairsL us)).map tieD)), .d x, .ol ((((combsL i (pairsL us)).take j).flatMap (growP (pairsL us))).map tieD), u4, u5], ⟨rfl, _, _, rfl⟩, ?_, ?_⟩
    · rintro j y ρ n2 hy ⟨rfl, w4, w5, rfl⟩
      rw [List.getElem?_map] at hy
      obtain ⟨s, hs, rfl⟩ := Option.map_eq_some_iff.mp hy
      obtain ⟨hj, hs2⟩ := List.getElem?_eq_some_iff.mp hs
      clear hy
      refine ⟨⟨_, rfl⟩, ?_⟩
      walk_at "dl"
      refine ⟨_, .inl rfl, by rw [List.length_map]; omega, ?_⟩
      rw [pD]
      show _ ∧ _
      have sl := combsL_len (List.mem_of_getElem? hs)
      have sls := (combsL_sub (List.mem_of_getElem? hs)).length_le
      refine ⟨by rw [List.length_map]; omega, compM_filter (f := growF s) (fun z hz n3 k q => ?_) ?_⟩
      · obtain ⟨pr, hpr, rfl⟩ := List.mem_map.mp hz
        unfold growF at q
        rw [pairD_at] at q
        cases s with
        | nil =>
          have q : k (some (tieD [pr])) n3 := q
          show _ ∧ k _ n3
          exact ⟨by simp, q⟩
        | cons r0 s0 =>
          show ∃ d, _ ∧ _
          obtain ⟨r, hr⟩ : ∃ r, (r0 :: s0).getLast? = some r := ⟨_, List.getLast?_eq_some_getLast (by simp)⟩
          refine ⟨_, at_lastP hr, lotP r, rfl, lotP pr, rfl, ?_⟩
          have e : laterP (r0 :: s0) pr = SCo.ltI (lotP r) (lotP pr) := by
            unfold laterP
            rw [hr]
          rw [e] at q
          cases hc : SCo.ltI (lotP r) (lotP pr) with
          | false => rw [hc] at q; exact q
          | true =>
            rw [hc] at q
            show _ ∧ k _ n3
            have e2 : tieD ((r0 :: s0) ++ [pr]) = .tup ((r0 :: s0).map pairI ++ [pairI pr]) := by
              unfold tieD
              rw [List.map_append]
              rfl
            rw [if_pos rfl, e2] at q
            exact ⟨by rw [List.length_map, List.length_singleton]; omega, q⟩
      · rw [growF_map, ← List.map_append]
        have et : ((combsL i (pairsL us)).take (j + 1)).flatMap (growP (pairsL us)) = ((combsL i (pairsL us)).take j).flatMap (growP (pairsL us)) ++ growP (pairsL us) s := by
          rw [List.take_add_one, hs, List.flatMap_append]
          show _ ++ (growP (pairsL us) s ++ []) = _
          rw [List.append_nil]
        have lt : (((combsL i (pairsL us)).take (j + 1)).flatMap (growP (pairsL us))).length ≤ 1024 := by
          refine Nat.le_trans ?_ total
          have e : (combsL i (pairsL us)).flatMap (growP (pairsL us)) = ((combsL i (pairsL us)).take (j + 1)).flatMap (growP (pairsL us)) ++ ((combsL i (pairsL us)).drop (j + 1)).flatMap (growP (pairsL us)) := by
            rw [← List.flatMap_append, List.take_append_drop]
          rw [e, List.length_append]
          omega
        rw [et] at lt
        exact ⟨by rw [List.length_map, List.length_map, ← List.length_append]; omega, rfl, .d (tieD s), w5, by rw [et]⟩
    · rintro ρ n2 ⟨rfl, w4, w5, rfl⟩
      walk_at "dl"
      rw [List.length_map, List.take_length, grow_combs i asc]
      exact ⟨_, _, _, _, rfl⟩
  · rintro ρ n' ⟨rfl, v2, v3, v4, v5, rfl⟩
    have el : (rangeD 0 (us.length - 1)).length = us.length - 1 := rangeA_len ..
    rw [el]
    walk_at "dl"
    refine ⟨by rw [List.length_map]; have := combs_len5 u5 (us.length - 1); omega, compM_filter (f := joinF us) (fun x hx n2 k q => ?_) ?_⟩
    · obtain ⟨ts, hts, rfl⟩ := List.mem_map.mp hx
      have hl := combsL_len hts
      have hb : ∀ t ∈ ts, t.1 ∈ us ∧ t.2 ∈ us := fun t ht => pairs_in ((combsL_sub hts).subset ht)
      refine ⟨us, ts, rfl, u, ⟨by omega, by omega, hb⟩, ?_⟩
      rw [joinC_eq u.nd (by omega) hb]
      have e : joinF us (tieD ts) = if joinC us ts = true then some (tieD ts) else none := by
        show (if joinC us ((ts.map pairI).map pairD) = true then some (tieD ts) else none) = _
        rw [pairD_map]
      rw [e] at q
      cases hj : joinC us ts with
      | true => rw [hj] at q; exact q
      | false => rw [hj] at q; exact q
    · rw [joinF_map]
      exact p

theorem sc_law_turned : FnScope ["columns", "at", "column_here"] ["columns"] (defScope s_law_turned) := ⟨rfl, rfl, rfl, by decide +kernel, rfl, by decide +kernel, by decide +kernel⟩
theorem ok_law_turned (T : Txt K mg cs tk0) (D : DefAt K mg "_law_turned" s_law_turned ["columns"]) : Has P w K mg base CX0 1 "_law_turned" ["columns"] (sp0 K TT ds_law_turned) := by
  obtain ⟨f, fd, F, hm, hk, hb⟩ := D
  refine ⟨f, fd, F.okD sc_law_turned (len_law_turned) (fun S cdv A outer s H E hr => ?_), hm, hk, hb⟩
  refine ⟨_, _, (pss_one (ps_ret (pe_callTy call_tupU (by rfl) T.n_tuple (by decide +kernel) (pa_cons (pe_lc (own := [("at", 1)]) (g := gName 1) rfl sc_law_turned.nd (pi_range1 (by rfl) T.n_range (pa_cons (pe_callB call_lenU (by rfl) T.n_len (by decide +kernel) (pa_cons (pe_ix ix_seq (pv 0) pe_int (fun _ _ => rfl)) pa_nil)) pa_nil)) (blkOk_by (N := ["columns", "at", "column_here"]) (own := [("at", 1)]) (sc := defScope s_law_turned) (by decide +kernel)) (fun _ _ _ _ _ => (pg_name (i := 1) sc_law_turned.nd rfl (by first | exact Or.inl rfl | exact Or.inr rfl))) (fun _ _ _ _ _ => pts_nil) (fun _ _ _ _ _ => (pe_callTy call_tupU (by rfl) T.n_tuple (by decide +kernel) (pa_cons (pe_lc (own := [("column_here", 2)]) (g := gName 2) rfl sc_law_turned.nd (pi_list (pv 0)) (blkOk_by (N := ["columns", "at", "column_here"]) (own := [("column_here", 2)]) (by rfl)) (fun _ _ _ _ _ => (pg_name (i := 2) sc_law_turned.nd rfl (by first | exact Or.inl rfl | exact Or.inr rfl))) (fun _ _ _ _ _ => pts_nil) (fun _ _ _ _ _ => (pe_ix ix_seq (pv 2) (pv 1) (fun _ _ => rfl)))) pa_nil)))) pa_nil)))),
    (rds_ret (rd_cb cal_tuple (rda_cons (rd_lc (rdj_of (rdi_range1 (rda_cons (rd_cb cal_len (rda_cons (rd_op o2_ix (rd_var (i := 0)) rd_int) rda_nil)) rda_nil))) (rdg_name (vs := [1]) (by decide)) rdt_yes (rd_cb cal_tuple (rda_cons (rd_lc (rdj_of (rdi_list (rd_var (i := 0)))) (rdg_name (vs := [2]) (by decide)) rdt_yes (rd_op o2_ix (rd_var (i := 2)) (rd_var (i := 1)))) rda_nil))) rda_nil))), ?_⟩
  rintro ss n P ⟨cols, many, rfl, c0, c8, m12, cl, p⟩
  walk_at "dl"
  obtain ⟨c0', cs', rfl⟩ := List.exists_cons_of_ne_nil c0
  have h0 := cl c0' List.mem_cons_self
  refine ⟨_, at_zero, ?_⟩
  show _ ∧ _ ∧ _ ∧ _
  have el : ((c0'.map D.int).length : Int) = (many : Int) := by rw [List.length_map, h0]
  rw [el, Int.toNat_natCast]
  refine ⟨by omega, by omega, by rw [rangeA_len]; omega, compM_map (f := fun x => tupI ((c0' :: cs').map fun c => c.getD (toI x).toNat 0)) (fun x hx n2 k q => ?_) ?_⟩
  · obtain ⟨i, hi⟩ := List.mem_iff_getElem?.mp hx
    have il := (List.getElem?_eq_some_iff.mp hi).1
    rw [rangeA_len] at il
    obtain ⟨rfl, _⟩ := range_at hi
    have e : (toI (D.int (0 + (i : Int)))).toNat = i := by show ((0 : Int) + (i : Int)).toNat = i; omega
    rw [e] at q
    refine ⟨by simp; simp at c8; omega, compM_map (f := colAt i) (fun y hy n3 k2 q2 => ?_) ?_⟩
    · obtain ⟨c, hc, rfl⟩ := List.mem_map.mp hy
      have hl := cl c hc
      refine ⟨.int (c.getD i 0), ?_, ?_⟩
      · rw [show (0 : Int) + (i : Int) = ((i : Nat) : Int) by omega]
        exact at_nat (getD_at (by omega))
      · rw [colAt_lst (by omega)] at q2
        exact q2
    · have e2 : ((c0' :: cs').map fun c => D.lst (c.map D.int)).map (colAt i) = ((c0' :: cs').map fun c => c.getD i 0).map D.int := by
        rw [List.map_map, List.map_map]
        exact List.map_congr_left fun c hc => colAt_lst (by rw [cl c hc]; exact il)
      rw [e2]
      exact q
  · have e3 : (rangeD 0 many).map (fun x => tupI ((c0' :: cs').map fun c => c.getD (toI x).toNat 0)) = (turnL (c0' :: cs') many).map tupI := by
      unfold rangeD turnL
      rw [List.map_map, List.map_map]
      refine List.map_congr_left fun i _ => ?_
      have e : (toI (D.int (0 + (i : Int)))).toNat = i := by show ((0 : Int) + (i : Int)).toNat = i; omega
      show tupI ((c0' :: cs').map fun c => c.getD (toI (D.int (0 + (i : Int)))).toNat 0) = _
      rw [e]
      rfl
    rw [e3]
    exact p

theorem sc_law_drawn : FnScope ["state", "fashion", "lap", "many", "columns", "more", "each"] ["state"] (defScope s_law_drawn) := ⟨rfl, rfl, rfl, by decide +kernel, rfl, by decide +kernel, by decide +kernel⟩
theorem ok_law_drawn (T : Txt K mg cs tk0) (D : DefAt K mg "_law_drawn" s_law_drawn ["state"]) (c_law_draw : Has P w K mg base CX0 1 "_law_draw" ["state", "size_here"] (sp0 K TT ds_law_draw)) (c_law_mixed : Has P w K mg base CX0 2 "_law_mixed" ["state", "several"] (sp0 K TT ds_law_mixed)) (c_law_turned : Has P w K mg base CX0 1 "_law_turned" ["columns"] (sp0 K TT ds_law_turned)) (c_law_wide : Has P w K mg base CX0 4 "_law_wide" ["state", "most", "several", "wide"] (sp0 K TT ds_law_wide)) : Has P w K mg base CX0 5 "_law_drawn" ["state"] (sp0 K TT ds_law_drawn) := by
  obtain ⟨f, fd, F, hm, hk, hb⟩ := D
  obtain ⟨_, _, c_law_draw_ok, c_law_draw_m, c_law_draw_k, c_law_draw_b⟩ := c_law_draw
  obtain ⟨_, _, c_law_mixed_ok, c_law_mixed_m, c_law_mixed_k, c_law_mixed_b⟩ := c_law_mixed
  obtain ⟨_, _, c_law_turned_ok, c_law_turned_m, c_law_turned_k, c_law_turned_b⟩ := c_law_turned
  obtain ⟨_, _, c_law_wide_ok, c_law_wide_m, c_law_wide_k, c_law_wide_b⟩ := c_law_wide
  refine ⟨f, fd, F.okD sc_law_drawn (len_law_drawn) (fun S cdv A outer s H E hr => ?_), hm, hk, hb⟩
  refine ⟨_, _, (pss_cons (ps_set (i := 1) sc_law_drawn.nd rfl (by first | exact Or.inl rfl | exact Or.inr rfl) (pe_call c_law_draw_ok (hr.mono (by decide)) rfl c_law_draw_m c_law_draw_k c_law_draw_b .nil pass0 (pa_cons (pv 0) (pa_cons pe_int pa_nil))))
      (pss_cons (ps_if (pt_cmpR (op_eqU hr.units) (pv 1) pe_int (nomark _)) (pss_cons (ps_par (i := 3) (j := 4) rfl sc_law_drawn.nd rfl rfl (by decide) rfl rfl (pa_cons (pe_op op_addU pe_int (pe_call c_law_draw_ok (hr.mono (by decide)) rfl c_law_draw_m c_law_draw_k c_law_draw_b .nil pass0 (pa_cons (pv 0) (pa_cons pe_int pa_nil)))) (pa_cons (pe_lst pa_nil) pa_nil)) (by rfl))
      (pss_cons (ps_for PassesOwn.never rfl (pi_range1 (by rfl) T.n_range (pa_cons pe_int pa_nil)) (pg_name (i := 2) sc_law_drawn.nd rfl (by first | exact Or.inl rfl | exact Or.inr rfl)) (pss_cons (ps_setLc (i := 5) (own := [("each", 6)]) (g := gName 6) rfl sc_law_drawn.nd rfl rfl (sw_true rfl rfl rfl (by decide +kernel)) (pi_range1 (by rfl) T.n_range (pa_cons (pe_op op_sub (pv 3) pe_int) pa_nil)) (blkOk_by (N := ["state", "fashion", "lap", "many", "columns", "more", "each"]) (own := [("each", 6)]) (sc := defScope s_law_drawn) (by decide +kernel)) (fun _ _ _ _ _ => (pg_name (i := 6) sc_law_drawn.nd rfl (by first | exact Or.inl rfl | exact Or.inr rfl))) (fun _ _ _ _ _ => pts_nil) (fun _ _ _ _ _ => (pe_call c_law_draw_ok (hr.mono (by decide)) rfl c_law_draw_m c_law_draw_k c_law_draw_b .nil pass0 (pa_cons (pv 0) (pa_cons pe_int pa_nil)))))
      (pss_one (ps_expr (pe_bm PySem.F.plainAttrs_list PySem.F.slot_list_append PySem.F.type_list_append mt_append (pv 4) (pa_cons (pe_call c_law_mixed_ok (hr.mono (by decide)) rfl c_law_mixed_m c_law_mixed_k c_law_mixed_b .nil pass0 (pa_cons (pv 0) (pa_cons (pe_op SCo.op_catL (pe_lst (pa_cons pe_int (pa_cons pe_int (pa_cons pe_int (pa_cons pe_int pa_nil))))) (pv 5)) pa_nil))) pa_nil))))))
      (pss_one (ps_ret (pe_disp (pps_cons pe_str (pe_tup (pa_cons pe_int (pa_cons pe_int (pa_cons pe_int pa_nil)))) (pps_cons pe_str (pe_call c_law_turned_ok (hr.mono (by decide)) rfl c_law_turned_m c_law_turned_k c_law_turned_b .nil pass0 (pa_cons (pv 4) pa_nil)) pps_nil)) (by rfl) (by rfl) (fun z => by cases z) (by decide)))))) pss_nil)
      (pss_cons (ps_if (pt_cmpR op_lt (pv 1) pe_int (nomark _)) (pss_one (ps_ret (pe_call c_law_wide_ok (hr.mono (by decide)) rfl c_law_wide_m c_law_wide_k c_law_wide_b .nil pass0 (pa_cons (pv 0) (pa_cons pe_int (pa_cons (pe_lst (pa_cons pe_int (pa_cons pe_int (pa_cons pe_int pa_nil)))) (pa_cons pe_int pa_nil))))))) pss_nil)
      (pss_one (ps_ret (pe_call c_law_wide_ok (hr.mono (by decide)) rfl c_law_wide_m c_law_wide_k c_law_wide_b .nil pass0 (pa_cons (pv 0) (pa_cons pe_int (pa_cons (pe_lst (pa_cons pe_int (pa_cons pe_int (pa_cons pe_int (pa_cons pe_int pa_nil))))) (pa_cons pe_int pa_nil)))))))))),
    (rds_seq (rds_set (rd_call0 (E := E0) (rda_st (i := 0) (rda_cons rd_int rda_nil))))
      (rds_seq (rds_if (rdt_test (rd_op o2_eq (rd_var (i := 1)) rd_int)) (rds_seq (rds_parM (i := 3) (j := 4) (rdm_d (rd_op o2_add rd_int (rd_call0 (E := E0) (rda_st (i := 0) (rda_cons rd_int rda_nil))))) (rdm_n rdn_nil))
      (rds_seq (rds_for (rdi_range1 (rda_cons rd_int rda_nil)) (rdg_name (vs := [2]) (by decide)) (rds_seq (rds_set (rd_lc (rdj_of (rdi_range1 (rda_cons (rd_op o2_sub (rd_var (i := 3)) rd_int) rda_nil))) (rdg_name (vs := [6]) (by decide)) rdt_yes (rd_call0 (E := E0) (rda_st (i := 0) (rda_cons rd_int rda_nil)))))
      (rds_appO (i := 4) (rd_call0 (E := E0) (rda_st (i := 0) (rda_cons (rd_op o2_addL (rd_lst (rda_cons rd_int (rda_cons rd_int (rda_cons rd_int (rda_cons rd_int rda_nil))))) (rd_var (i := 5))) rda_nil))))))
      (rds_frz (i := 4) (rds_ret (rd_disp (.cons rd_str (rd_tup (rda_cons rd_int (rda_cons rd_int (rda_cons rd_int rda_nil)))) (.cons rd_str (rd_call0 (E := E0) (rda_cons (rd_var (i := 4)) rda_nil)) .nil))))))) rds_next)
      (rds_seq (rds_if (rdt_test (rd_op o2_cmp (rd_var (i := 1)) rd_int)) (rds_ret (rd_call0 (E := E0) (rda_st (i := 0) (rda_cons rd_int (rda_cons (rd_lst (rda_cons rd_int (rda_cons rd_int (rda_cons rd_int rda_nil)))) (rda_cons rd_int rda_nil)))))) rds_next)
      (rds_ret (rd_call0 (E := E0) (rda_st (i := 0) (rda_cons rd_int (rda_cons (rd_lst (rda_cons rd_int (rda_cons rd_int (rda_cons rd_int (rda_cons rd_int rda_nil))))) (rda_cons rd_int rda_nil))))))))), ?_⟩
  rintro ss n P ⟨rfl, hn, p⟩
  walk_at "dl"
  have hn' : n + 6000 < 1099511627776 := hn
  refine ⟨8, rfl, by decide, by decide, lim (by omega), fun fa n1 f0 f8 hn1 => ?_⟩
  show eqP id (.int fa) (.int 0) _
  rw [eqP_int]
  simp only [id]
  cases decide (fa = 0) with
  | true =>
    show ds_law_draw _ _ _
    refine ⟨3, rfl, by decide, by decide, lim (by omega), fun a n2 a0 a1 hn2 => ?_⟩
    obtain ⟨a, rfl⟩ := Int.eq_ofNat_of_zero_le a0
    have em : (6 : Int) + ((a : Nat) : Int) = ((6 + a : Nat) : Int) := by omega
    show _ ∧ _ ∧ ∃ I, _
    rw [em]
    refine ⟨by decide, by decide, fun i ρ n' => n' ≤ n2 + 40 * i ∧ ∃ (u2 u5 u6 : SV) (cols : List (List Int)), ρ = [.st, .d (.int fa), u2, .d (.int ((6 + a : Nat) : Int)), .ol (colsD cols), u5, u6] ∧ cols.length = i ∧ ∀ (j : Nat) (k : Int) (c : List Int), ([4, 4, 4] : List Int)[j]? = some k → cols[j]? = some c → ColOk k (6 + a) c, ⟨by omega, _, _, _, [], rfl, rfl, fun j k c _ h => by simp at h⟩, ?_, ?_⟩
    · rintro i x ρ n' hx ⟨hn3, u2, u5, u6, cols, rfl, hl, hc⟩
      have hi : i < 3 := (List.getElem?_eq_some_iff.mp hx).1
      clear hx
      have ej : ((6 + a : Nat) : Int) - 4 = ((2 + a : Nat) : Int) := by omega
      have erl : (rangeD 0 (((2 + a : Nat) : Int)).toNat).length = 2 + a := range_len
      show _ ∧ _ ∧ _ ∧ _
      rw [ej]
      refine ⟨by omega, by omega, by omega, compM_gen (c := 1) (N := n' + 20) (good := fun x d => d ∈ (natsI 4).map D.int) _ _ _ (by omega) (fun x hx m q hm hq => ?_) fun ds n4 hn4 hdl hds => ?_⟩
      · refine ⟨rfl, 4, rfl, by decide, by decide, lim (by omega), fun v m2 v0 v1 hm2 => hq _ _ (by omega) (List.mem_map_of_mem (natsI_mem ⟨v0, v1⟩))⟩
      obtain ⟨vs, rfl, hvs⟩ := picks_of hds hdl
      rw [List.length_map, erl] at hdl
      rw [erl] at hn4
      show _ ∧ _
      refine ⟨rfl, ?_⟩
      show _ ∧ ds_law_mixed _ _ _
      have e4 : ([D.int 0, D.int 1, D.int 2, D.int 3] : List D) ++ vs.map D.int = (natsI 4 ++ vs).map D.int := by rw [List.map_append]; rfl
      rw [e4]
      refine ⟨by rw [List.length_map]; show 4 + vs.length ≤ _; omega, _, .inl rfl, by rw [List.length_map, List.length_append, natsI_len]; omega, lim (by omega), fun ys n5 hp hn5 => ?_⟩
      rw [List.length_map, List.length_append, natsI_len] at hn5
      obtain ⟨c, rfl, hpc⟩ := perm_intL hp
      have ck : ColOk ((4 : Nat) : Int) (6 + a) c := col_of (List.Perm.refl _) hvs hpc (by omega)
      show _ ∧ _ ∧ _
      rw [colsD_snoc]
      have cl : (colsD cols).length = i := by unfold colsD; rw [List.length_map, hl]
      refine ⟨by omega, by omega, _, _, _, cols ++ [c], rfl, by rw [List.length_append, List.length_singleton, hl], cols_snoc hc (k := 4) ?_ ck⟩
      rw [hl]
      match i, hi with
      | 0, _ => rfl
      | 1, _ => rfl
      | 2, _ => rfl
    · rintro ρ n' ⟨hn3, u2, u5, u6, cols, rfl, hl, hc⟩
      have hl : cols.length = 3 := hl
      have hn3 : n' ≤ n2 + 120 := hn3
      have co : ColsOk [4, 4, 4] cols (6 + a) := ⟨hl, hc⟩
      walk_at "dl"
      refine ⟨cols, 6 + a, rfl, (by intro e; rw [e] at hl; cases hl), by omega, by omega, fun c hc' => ?_, by decide, ?_⟩
      · obtain ⟨j, hj⟩ := List.mem_iff_getElem?.mp hc'
        have jl := (List.getElem?_eq_some_iff.mp hj).1
        have jk : j < ([4, 4, 4] : List Int).length := by rw [← co.l]; exact jl
        exact (co.c j _ c (List.getElem?_eq_getElem jk) hj).1
      have kl : 1 ≤ ([4, 4, 4] : List Int).length ∧ ([4, 4, 4] : List Int).length ≤ 8 := by decide
      have kb : ∀ k ∈ ([4, 4, 4] : List Int), 1 ≤ k ∧ k ≤ 6 := by decide
      have ml : 1 ≤ 6 + a ∧ 6 + a ≤ 12 := by omega
      have t := turn_full co kl kb ml
      have us : ∀ m, m < ([4, 4, 4] : List Int).length → (usedL (turnL cols (6 + a)) m).length ≤ 4 := fun m hm => by
        rw [turn_used co kl kb ml (List.getElem?_eq_getElem hm)]
        match m, hm with
        | 0, _ => exact Nat.le_refl _
        | 1, _ => exact Nat.le_refl _
        | 2, _ => exact Nat.le_refl _
      exact p [4, 4, 4] _ _ t (small_of t (c := 16) us (fun m hm => manyT_le4 (us m hm)) (by decide) (by decide) (by decide)) (by omega)
  | false =>
    show (match decide (fa < 3) with | true => _ | false => _ : Prop)
    cases decide (fa < 3) with
    | true =>
      show ds_law_wide _ _ _
      refine ⟨8, 2, [4, 3, 2], rfl, by decide, by decide, by decide, by decide, by decide, by decide, by decide, lim (by omega), fun ks rss n' f h1 h2 h3 hn3 => ?_⟩
      have us : ∀ m, m < ks.length → (usedL rss m).length ≤ 4 := fun m hm => by
        have z := used_le f (List.getElem?_eq_getElem hm)
        have := h3 ks[m] (List.getElem_mem hm)
        have : ks[m] ≤ 4 := by revert this; generalize ks[m] = k; intro this; simp at this; omega
        omega
      have kl := f.kl
      have : ks.length = 1 ∨ ks.length = 2 := by omega
      refine p ks rss n' f (small_of f (c := 16) us (fun m hm => manyT_le4 (us m hm)) (by decide) ?_ ?_) (by omega)
      · rcases this with e | e <;> rw [e] <;> decide
      · rcases this with e | e <;> rw [e] <;> decide
    | false =>
      show ds_law_wide _ _ _
      refine ⟨8, 4, [3, 3, 2, 1], rfl, by decide, by decide, by decide, by decide, by decide, by decide, by decide, lim (by omega), fun ks rss n' f h1 h2 h3 hn3 => ?_⟩
      have us : ∀ m, m < ks.length → (usedL rss m).length ≤ 3 := fun m hm => by
        have z := used_le f (List.getElem?_eq_getElem hm)
        have := h3 ks[m] (List.getElem_mem hm)
        have : ks[m] ≤ 3 := by revert this; generalize ks[m] = k; intro this; simp at this; omega
        omega
      have kl := f.kl
      have : ks.length = 1 ∨ ks.length = 2 ∨ ks.length = 3 ∨ ks.length = 4 := by omega
      refine p ks rss n' f (small_of f (c := 3) (fun m hm => by have := us m hm; omega) (fun m hm => manyT_le3 (us m hm)) (by decide) ?_ ?_) (by omega)
      · rcases this with e | e | e | e <;> rw [e] <;> decide
      · rcases this with e | e | e | e <;> rw [e] <;> decide

theorem sc_law_big : FnScope ["state", "several", "sizes", "size_here", "many", "columns", "order", "lap"] ["state"] (defScope s_law_big) := ⟨rfl, rfl, rfl, by decide +kernel, rfl, by decide +kernel, by decide +kernel⟩
theorem ok_law_big (T : Txt K mg cs tk0) (D : DefAt K mg "_law_big" s_law_big ["state"]) (c_law_mixed : Has P w K mg base CX0 2 "_law_mixed" ["state", "several"] (sp0 K TT ds_law_mixed)) (c_law_pick : Has P w K mg base CX0 2 "_law_pick" ["state", "several"] (sp0 K TT ds_law_pick)) (c_law_draw : Has P w K mg base CX0 1 "_law_draw" ["state", "size_here"] (sp0 K TT ds_law_draw)) (c_law_turned : Has P w K mg base CX0 1 "_law_turned" ["columns"] (sp0 K TT ds_law_turned)) : Has P w K mg base CX0 3 "_law_big" ["state"] (sp0 K TT ds_law_big) := by
  obtain ⟨f, fd, F, hm, hk, hb⟩ := D
  obtain ⟨_, _, c_law_mixed_ok, c_law_mixed_m, c_law_mixed_k, c_law_mixed_b⟩ := c_law_mixed
  obtain ⟨_, _, c_law_pick_ok, c_law_pick_m, c_law_pick_k, c_law_pick_b⟩ := c_law_pick
  obtain ⟨_, _, c_law_draw_ok, c_law_draw_m, c_law_draw_k, c_law_draw_b⟩ := c_law_draw
  obtain ⟨_, _, c_law_turned_ok, c_law_turned_m, c_law_turned_k, c_law_turned_b⟩ := c_law_turned
  refine ⟨f, fd, F.okD sc_law_big (len_law_big) (fun S cdv A outer s H E hr => ?_), hm, hk, hb⟩
  refine ⟨_, _, (pss_cons (ps_set (i := 1) sc_law_big.nd rfl (by first | exact Or.inl rfl | exact Or.inr rfl) (pe_lst (pa_cons (pe_lst (pa_cons pe_int (pa_cons pe_int pa_nil))) (pa_cons (pe_lst (pa_cons pe_int (pa_cons pe_int pa_nil))) (pa_cons (pe_lst (pa_cons pe_int (pa_cons pe_int (pa_cons pe_int pa_nil)))) (pa_cons (pe_lst (pa_cons pe_int (pa_cons pe_int (pa_cons pe_int (pa_cons pe_int pa_nil))))) (pa_cons (pe_lst (pa_cons pe_int (pa_cons pe_int (pa_cons pe_int (pa_cons pe_int (pa_cons pe_int (pa_cons pe_int (pa_cons pe_int (pa_cons pe_int pa_nil))))))))) (pa_cons (pe_lst (pa_cons pe_int (pa_cons pe_int (pa_cons pe_int pa_nil)))) (pa_cons (pe_lst (pa_cons pe_int (pa_cons pe_int (pa_cons pe_int (pa_cons pe_int pa_nil))))) pa_nil)))))))))
      (pss_cons (ps_set (i := 2) sc_law_big.nd rfl (by first | exact Or.inl rfl | exact Or.inr rfl) (pe_call c_law_mixed_ok (hr.mono (by decide)) rfl c_law_mixed_m c_law_mixed_k c_law_mixed_b .nil pass0 (pa_cons (pv 0) (pa_cons (pe_call c_law_pick_ok (hr.mono (by decide)) rfl c_law_pick_m c_law_pick_k c_law_pick_b .nil pass0 (pa_cons (pv 0) (pa_cons (pv 1) pa_nil))) pa_nil))))
      (pss_cons (ps_par (i := 4) (j := 5) rfl sc_law_big.nd rfl rfl (by decide) rfl rfl (pa_cons (pe_op op_addU pe_int (pe_call c_law_draw_ok (hr.mono (by decide)) rfl c_law_draw_m c_law_draw_k c_law_draw_b .nil pass0 (pa_cons (pv 0) (pa_cons pe_int pa_nil)))) (pa_cons (pe_lst pa_nil) pa_nil)) (by rfl))
      (pss_cons (ps_for PassesOwn.never rfl (pi_list (pv 2)) (pg_name (i := 3) sc_law_big.nd rfl (by first | exact Or.inl rfl | exact Or.inr rfl)) (pss_cons (ps_set (i := 6) sc_law_big.nd rfl (by first | exact Or.inl rfl | exact Or.inr rfl) (pe_call c_law_mixed_ok (hr.mono (by decide)) rfl c_law_mixed_m c_law_mixed_k c_law_mixed_b .nil pass0 (pa_cons (pv 0) (pa_cons (RZ.pe_listRng (by rfl) T.n_list (by rfl) T.n_range (pa_cons (pv 3) pa_nil)) pa_nil))))
      (pss_one (ps_expr (pe_bm PySem.F.plainAttrs_list PySem.F.slot_list_append PySem.F.type_list_append mt_append (pv 5) (pa_cons (pe_call c_law_mixed_ok (hr.mono (by decide)) rfl c_law_mixed_m c_law_mixed_k c_law_mixed_b .nil pass0 (pa_cons (pv 0) (pa_cons (pe_op SCo.op_catL (pv 6) (pe_lc (own := [("lap", 7)]) (g := gName 7) rfl sc_law_big.nd (pi_range1 (by rfl) T.n_range (pa_cons (pe_op op_sub (pv 4) (pv 3)) pa_nil)) (blkOk_by (N := ["state", "several", "sizes", "size_here", "many", "columns", "order", "lap"]) (own := [("lap", 7)]) (sc := defScope s_law_big) (by decide +kernel)) (fun _ _ _ _ _ => (pg_name (i := 7) sc_law_big.nd rfl (by first | exact Or.inl rfl | exact Or.inr rfl))) (fun _ _ _ _ _ => pts_nil) (fun _ _ _ _ _ => (pe_call c_law_draw_ok (hr.mono (by decide)) rfl c_law_draw_m c_law_draw_k c_law_draw_b .nil pass0 (pa_cons (pv 0) (pa_cons (pv 3) pa_nil)))))) pa_nil))) pa_nil))))))
      (pss_one (ps_ret (pe_disp (pps_cons pe_str (pe_callTy call_tupU (by rfl) T.n_tuple (by decide +kernel) (pa_cons (pv 2) pa_nil)) (pps_cons pe_str (pe_call c_law_turned_ok (hr.mono (by decide)) rfl c_law_turned_m c_law_turned_k c_law_turned_b .nil pass0 (pa_cons (pv 5) pa_nil)) pps_nil)) (by rfl) (by rfl) (fun z => by cases z) (by decide)))))))),
    (rds_seq (rds_set (rd_lst (rda_cons (rd_lst (rda_cons rd_int (rda_cons rd_int rda_nil))) (rda_cons (rd_lst (rda_cons rd_int (rda_cons rd_int rda_nil))) (rda_cons (rd_lst (rda_cons rd_int (rda_cons rd_int (rda_cons rd_int rda_nil)))) (rda_cons (rd_lst (rda_cons rd_int (rda_cons rd_int (rda_cons rd_int (rda_cons rd_int rda_nil))))) (rda_cons (rd_lst (rda_cons rd_int (rda_cons rd_int (rda_cons rd_int (rda_cons rd_int (rda_cons rd_int (rda_cons rd_int (rda_cons rd_int (rda_cons rd_int rda_nil))))))))) (rda_cons (rd_lst (rda_cons rd_int (rda_cons rd_int (rda_cons rd_int rda_nil)))) (rda_cons (rd_lst (rda_cons rd_int (rda_cons rd_int (rda_cons rd_int (rda_cons rd_int rda_nil))))) rda_nil)))))))))
      (rds_seq (rds_set (rd_call0 (E := E0) (rda_st (i := 0) (rda_cons (rd_call0 (E := E0) (rda_st (i := 0) (rda_cons (rd_var (i := 1)) rda_nil))) rda_nil))))
      (rds_seq (rds_parM (i := 4) (j := 5) (rdm_d (rd_op o2_add rd_int (rd_call0 (E := E0) (rda_st (i := 0) (rda_cons rd_int rda_nil))))) (rdm_n rdn_nil))
      (rds_seq (rds_for (rdi_list (rd_var (i := 2))) (rdg_name (vs := [3]) (by decide)) (rds_seq (rds_set (rd_call0 (E := E0) (rda_st (i := 0) (rda_cons (rd_listRng (rda_cons (rd_var (i := 3)) rda_nil)) rda_nil))))
      (rds_appO (i := 5) (rd_call0 (E := E0) (rda_st (i := 0) (rda_cons (rd_op o2_addL (rd_var (i := 6)) (rd_lc (rdj_of (rdi_range1 (rda_cons (rd_op o2_sub (rd_var (i := 4)) (rd_var (i := 3))) rda_nil))) (rdg_name (vs := [7]) (by decide)) rdt_yes (rd_call0 (E := E0) (rda_st (i := 0) (rda_cons (rd_var (i := 3)) rda_nil))))) rda_nil))))))
      (rds_frz (i := 5) (rds_ret (rd_disp (.cons rd_str (rd_cb cal_tuple (rda_cons (rd_var (i := 2)) rda_nil)) (.cons rd_str (rd_call0 (E := E0) (rda_cons (rd_var (i := 5)) rda_nil)) .nil))))))))), ?_⟩
  rintro ss n P ⟨rfl, hn, p⟩
  walk_at "dl"
  have hn' : n + 6000 < 1099511627776 := hn
  refine ⟨bigS.map fun l => .lst (l.map D.int), .inr rfl, by decide, by decide, lim (by omega), fun d hd n1 hn1 => ?_⟩
  obtain ⟨l, hl, rfl⟩ := List.mem_map.mp hd
  obtain ⟨l1, l8, lb, _⟩ := bigS_ok l hl
  refine ⟨l.map D.int, .inl rfl, by rw [List.length_map]; omega, lim (by omega), fun ys n2 hp hn2 => ?_⟩
  rw [List.length_map] at hn2
  obtain ⟨ks, rfl, hpk⟩ := perm_intL hp
  have kl : ks.length = l.length := hpk.length_eq
  have kb : ∀ k ∈ ks, 1 ≤ k ∧ k ≤ 6 := fun k hk => lb k (hpk.mem_iff.mp hk)
  refine ⟨7, rfl, by decide, by decide, lim (by omega), fun a n3 a0 a1 hn3 => ?_⟩
  obtain ⟨a, rfl⟩ := Int.eq_ofNat_of_zero_le a0
  have em : (6 : Int) + ((a : Nat) : Int) = ((6 + a : Nat) : Int) := by omega
  show ∃ I, _
  rw [em]
  refine ⟨fun i ρ n' => n' ≤ n3 + 40 * i ∧ ∃ (u3 u6 u7 : SV) (cols : List (List Int)), ρ = [.st, .d (.lst (bigS.map fun l => .lst (l.map D.int))), .d (.lst (ks.map D.int)), u3, .d (.int ((6 + a : Nat) : Int)), .ol (colsD cols), u6, u7] ∧ cols.length = i ∧ ∀ (j : Nat) (k : Int) (c : List Int), ks[j]? = some k → cols[j]? = some c → ColOk k (6 + a) c, ⟨by omega, _, _, _, [], rfl, rfl, fun j k c _ h => by simp at h⟩, ?_, ?_⟩
  · rintro i x ρ n' hx ⟨hn4, u3, u6, u7, cols, rfl, hl2, hc⟩
    rw [List.getElem?_map] at hx
    obtain ⟨k, hk, rfl⟩ := Option.map_eq_some_iff.mp hx
    have hi := (List.getElem?_eq_some_iff.mp hk).1
    have b := kb k (List.mem_of_getElem? hk)
    clear hx
    obtain ⟨m, rfl⟩ := Int.eq_ofNat_of_zero_le (show 0 ≤ k by omega)
    refine ⟨rfl, ?_⟩
    show ∃ i, _
    refine ⟨(m : Int), rfl, by omega, by omega, ?_⟩
    rw [Int.toNat_natCast]
    refine ⟨natsD m, .inl rfl, by rw [natsD_len]; omega, lim (by omega), fun ys n5 hp5 hn5 => ?_⟩
    rw [natsD_len] at hn5
    obtain ⟨os, rfl, hpo⟩ := perm_intL hp5
    have ej : ((6 + a : Nat) : Int) - (m : Int) = ((6 + a - m : Nat) : Int) := by omega
    have erl : (rangeD 0 (((6 + a - m : Nat) : Int)).toNat).length = 6 + a - m := range_len
    refine ⟨rfl, ?_⟩
    show _ ∧ _ ∧ _ ∧ _
    rw [ej]
    refine ⟨by omega, by omega, by omega, compM_gen (c := 1) (N := n5 + 20) (good := fun x d => d ∈ (natsI m).map D.int) _ _ _ (by omega) (fun x hx q hq0 hm hq => ?_) fun ds n6 hn6 hdl hds => ?_⟩
    · exact ⟨rfl, (m : Int), rfl, by omega, by omega, lim (by omega), fun v m2 v0 v1 hm2 => hq _ _ (by omega) (List.mem_map_of_mem (natsI_mem ⟨v0, v1⟩))⟩
    obtain ⟨vs, rfl, hvs⟩ := picks_of hds hdl
    rw [List.length_map, erl] at hdl
    rw [erl] at hn6
    have ol := hpo.length_eq
    rw [natsI_len] at ol
    show _ ∧ ds_law_mixed _ _ _
    rw [← List.map_append]
    refine ⟨by rw [List.length_map, List.length_map]; omega, _, .inl rfl, by rw [List.length_map, List.length_append]; omega, lim (by omega), fun ys n7 hp7 hn7 => ?_⟩
    rw [List.length_map, List.length_append] at hn7
    obtain ⟨c, rfl, hpc⟩ := perm_intL hp7
    have ck : ColOk (m : Int) (6 + a) c := col_of hpo hvs hpc (by omega)
    show _ ∧ _ ∧ _
    rw [colsD_snoc]
    have cl : (colsD cols).length = i := by unfold colsD; rw [List.length_map, hl2]
    exact ⟨by omega, by omega, _, _, _, cols ++ [c], rfl, by rw [List.length_append, List.length_singleton, hl2], cols_snoc hc (by rw [hl2]; exact hk) ck⟩
  · rintro ρ n' ⟨hn4, u3, u6, u7, cols, rfl, hl2, hc⟩
    rw [List.length_map] at hl2 hn4
    have co : ColsOk ks cols (6 + a) := ⟨hl2, hc⟩
    have ml : 1 ≤ 6 + a ∧ 6 + a ≤ 12 := by omega
    walk_at "dl"
    refine ⟨cols, 6 + a, rfl, by intro e; rw [e] at hl2; simp at hl2; omega, by omega, by omega, fun c hc' => ?_, by decide, ?_⟩
    · obtain ⟨j, hj⟩ := List.mem_iff_getElem?.mp hc'
      have jl := (List.getElem?_eq_some_iff.mp hj).1
      have jk : j < ks.length := by rw [← co.l]; exact jl
      exact (co.c j _ c (List.getElem?_eq_getElem jk) hj).1
    obtain ⟨f, bg⟩ := big_of hl hpk co ml
    exact p ks _ _ f bg (by omega)

theorem sc_told : FnScope ["table", "matter", "tree"] ["table", "matter"] (defScope s_told) := ⟨rfl, rfl, rfl, by decide +kernel, rfl, by decide +kernel, by decide +kernel⟩
theorem ok_told (T : Txt K mg cs tk0) (D : DefAt K mg "_told" s_told ["table", "matter"]) (c_custom_trees : Has P w K mg base (L2.CX P w) 5 "custom_trees" ["table", "matter"] (spO K TT (ds_custom_trees cs))) (c_pair_partings : Has P w K mg base (L2.CX P w) 6 "pair_partings" ["table", "matter", "custom_tree"] (spX K TT (ds_pair_partings cs))) : Has P w K mg base (L2.CX P w) 7 "_told" ["table", "matter"] (spX K TT (ds_told cs)) := by
  obtain ⟨f, fd, F, hm, hk, hb⟩ := D
  obtain ⟨_, _, c_custom_trees_ok, c_custom_trees_m, c_custom_trees_k, c_custom_trees_b⟩ := c_custom_trees
  obtain ⟨_, _, c_pair_partings_ok, c_pair_partings_m, c_pair_partings_k, c_pair_partings_b⟩ := c_pair_partings
  refine ⟨f, fd, F.okXD sc_told (len_told cs) (fun S cdv A outer s H E hr => ?_), hm, hk, hb⟩
  have tk := takes_of (X := cxOf (L2.CX P w) P w K mg base ["table", "matter", "tree"] "_told" (defScope s_told) f cdv A outer s H E) (E := E) rfl rfl rfl rfl
  refine ⟨_, _, (pss_one (ps_ret (pe_lc (own := [("tree", 2)]) (g := gName 2) rfl sc_told.nd (pi_list (pe_call c_custom_trees_ok (hr.mono (by decide)) rfl c_custom_trees_m c_custom_trees_k c_custom_trees_b .nil (passes_call tk (fun _ _ _ _ h => h)) (pa_cons (pv 0) (pa_cons (pv 1) pa_nil)))) (blkOk_by (N := ["table", "matter", "tree"]) (own := [("tree", 2)]) (sc := defScope s_told) (by decide +kernel)) (fun _ _ _ _ _ => (pg_name (i := 2) sc_told.nd rfl (by first | exact Or.inl rfl | exact Or.inr rfl))) (fun _ _ _ _ _ => pts_nil) (fun _ _ _ _ _ => (pe_tup (pa_cons (pv 2) (pa_cons (pe_call c_pair_partings_ok (hr.mono (by decide)) rfl c_pair_partings_m c_pair_partings_k c_pair_partings_b .nil passL (pa_cons (pv 0) (pa_cons (pv 1) (pa_cons (pv 2) pa_nil)))) pa_nil))))))),
    (rds_ret (rd_lc (rdj_of (rdi_list (rd_ofN (rdn_callO (rda_cons (rd_var (i := 0)) (rda_cons (rd_var (i := 1)) rda_nil)))))) (rdg_name (vs := [2]) (by decide)) rdt_yes (rd_tup (rda_cons (rd_var (i := 2)) (rda_cons (rd_callN (rda_cons (rd_var (i := 0)) (rda_cons (rd_var (i := 1)) (rda_cons (rd_var (i := 2)) rda_nil)))) rda_nil))))), ?_⟩
  rintro ss n P XP ⟨ks, rss, m, rfl, t, hm, p⟩
  walk_at "dl"
  have u := usedL_ok t hm
  have ul := u.l
  have hl := t.rl
  refine ⟨_, _, rfl, rfl, .inr (.inr ⟨ks, rss, rfl, t, .inr ⟨m, rfl, hm, ?_⟩⟩)⟩
  have tl := trees_count u
  have tl2 : (treesC (usedL rss m)).length ≤ 32768 := Nat.le_trans (List.length_filter_le _ _) (combs_len6 (by omega) _)
  refine ⟨by rw [List.length_map]; omega, compM_map (f := fun x => choiceF (colL rss m) x) (fun x hx n2 k q => ?_) ?_⟩
  · obtain ⟨ts, hts, rfl⟩ := List.mem_map.mp hx
    have c := trees_in u hts
    have cl := c.l
    rw [choiceF_tie] at q
    exact ⟨_, _, _, rfl, rfl, ties_nx, ties_short (by omega), .inr (.inr ⟨ks, rss, rfl, t, .inr ⟨m, rfl, hm, .inr ⟨ts, rfl, c, q⟩⟩⟩)⟩
  · have e : ((treesC (usedL rss m)).map tieD).map (fun x => choiceF (colL rss m) x) = (treesC (usedL rss m)).map (choiceD (colL rss m)) := by
      rw [List.map_map]
      exact List.map_congr_left fun ts _ => choiceF_tie
    rw [e]
    exact p

theorem sc_all_told : FnScope ["table", "many", "matter"] ["table"] (defScope s_all_told) := ⟨rfl, rfl, rfl, by decide +kernel, rfl, by decide +kernel, by decide +kernel⟩
theorem ok_all_told (T : Txt K mg cs tk0) (D : DefAt K mg "_all_told" s_all_told ["table"]) (c_check_full : Has P w K mg base (L2.CX P w) 3 "check_full" ["table"] (spX K TT (ds_check_full cs))) (c_custom_trees : Has P w K mg base (L2.CX P w) 5 "custom_trees" ["table", "matter"] (spO K TT (ds_custom_trees cs))) (c_told : Has P w K mg base (L2.CX P w) 7 "_told" ["table", "matter"] (spX K TT (ds_told cs))) (x_TooMany : HasX1 P w K mg base cs.TooMany "most") : Has P w K mg base (L2.CX P w) 8 "_all_told" ["table"] (spX K TT (ds_all_told cs)) := by
  obtain ⟨f, fd, F, hm, hk, hb⟩ := D
  obtain ⟨_, _, c_check_full_ok, c_check_full_m, c_check_full_k, c_check_full_b⟩ := c_check_full
  obtain ⟨_, _, c_custom_trees_ok, c_custom_trees_m, c_custom_trees_k, c_custom_trees_b⟩ := c_custom_trees
  obtain ⟨_, _, c_told_ok, c_told_m, c_told_k, c_told_b⟩ := c_told
  obtain ⟨_, _, _, _, x_TooMany_o, x_TooMany_n, x_TooMany_i, x_TooMany_t, x_TooMany_f, x_TooMany_b⟩ := x_TooMany
  refine ⟨f, fd, F.okXD sc_all_told (len_all_told cs) (fun S cdv A outer s H E hr => ?_), hm, hk, hb⟩
  have tk := takes_of (X := cxOf (L2.CX P w) P w K mg base ["table", "many", "matter"] "_all_told" (defScope s_all_told) f cdv A outer s H E) (E := E) rfl rfl rfl rfl
  refine ⟨_, _, (pss_cons (ps_expr (pe_call c_check_full_ok (hr.mono (by decide)) rfl c_check_full_m c_check_full_k c_check_full_b .nil (passes_call tk (fun _ _ _ _ h => h)) (pa_cons (pv 0) pa_nil)))
      (pss_cons (ps_set (i := 1) sc_all_told.nd rfl (by first | exact Or.inl rfl | exact Or.inr rfl) pe_int)
      (pss_cons (ps_for (passes_of rfl) rfl (pi_range1 (by rfl) T.n_range (pa_cons (pe_callB call_lenU (by rfl) T.n_len (by decide +kernel) (pa_cons (pe_fld (pv 0) rfl) pa_nil)) pa_nil)) (pg_name (i := 2) sc_all_told.nd rfl (by first | exact Or.inl rfl | exact Or.inr rfl)) (pss_cons (ps_set (i := 1) sc_all_told.nd rfl (by first | exact Or.inl rfl | exact Or.inr rfl) (pe_op op_mulU (pv 1) (pe_callB call_lenU (by rfl) T.n_len (by decide +kernel) (pa_cons (pe_call c_custom_trees_ok (hr.mono (by decide)) rfl c_custom_trees_m c_custom_trees_k c_custom_trees_b .nil (passes_call tk (fun _ _ _ _ h => h)) (pa_cons (pv 0) (pa_cons (pv 2) pa_nil))) pa_nil))))
      (pss_one (ps_if (pt_cmpR op_gt (pv 1) (pe_glob (v := .int 5000) rfl T.k_MOST_ARROWS.2 ⟨_, rfl⟩) (nomark _)) (pss_one (ps_raise (W := fun cls d _ H => E cls d H) rfl tk (pmk_oex x_TooMany_o x_TooMany_i x_TooMany_t x_TooMany_f (hr.mono (by decide)) x_TooMany_b .nil pass0 rfl T.g_TooMany (pa_cons (pe_glob (v := .int 5000) rfl T.k_MOST_ARROWS.2 ⟨_, rfl⟩) pa_nil)))) pss_nil))))
      (pss_one (ps_ret (pe_lc (own := [("matter", 2)]) (g := gName 2) rfl sc_all_told.nd (pi_range1 (by rfl) T.n_range (pa_cons (pe_callB call_lenU (by rfl) T.n_len (by decide +kernel) (pa_cons (pe_fld (pv 0) rfl) pa_nil)) pa_nil)) (blkOk_by (N := ["table", "many", "matter"]) (own := [("matter", 2)]) (sc := defScope s_all_told) (by decide +kernel)) (fun _ _ _ _ _ => (pg_name (i := 2) sc_all_told.nd rfl (by first | exact Or.inl rfl | exact Or.inr rfl))) (fun _ _ _ _ _ => pts_nil) (fun _ _ _ _ _ => (pe_call c_told_ok (hr.mono (by decide)) rfl c_told_m c_told_k c_told_b .nil passL (pa_cons (pv 0) (pa_cons (pv 2) pa_nil)))))))))),
    (rds_seq (rds_drop (rd_callX (rda_cons (rd_var (i := 0)) rda_nil)))
      (rds_seq (rds_set rd_int)
      (rds_seq (rds_for (rdi_range1 (rda_cons (rd_cb cal_len (rda_cons (rd_fld (rd_var (i := 0))) rda_nil)) rda_nil)) (rdg_name (vs := [2]) (by decide)) (rds_seq (rds_set (rd_op o2_mul (rd_var (i := 1)) (rd_cb cal_len (rda_cons (rd_ofN (rdn_callO (rda_cons (rd_var (i := 0)) (rda_cons (rd_var (i := 2)) rda_nil)))) rda_nil))))
      (rds_if (rdt_test (rd_op o2_cmp (rd_var (i := 1)) rd_int)) (rds_raise1 x_TooMany_o x_TooMany_n (rda_cons rd_int rda_nil)) rds_next)))
      (rds_ret (rd_lc (rdj_of (rdi_range1 (rda_cons (rd_cb cal_len (rda_cons (rd_fld (rd_var (i := 0))) rda_nil)) rda_nil))) (rdg_name (vs := [2]) (by decide)) rdt_yes (rd_callN (rda_cons (rd_var (i := 0)) (rda_cons (rd_var (i := 2)) rda_nil)))))))), ?_⟩
  rintro ss n P XP ⟨d, rfl, h⟩
  walk_at "dl"
  rcases h with ⟨xd, ni, p⟩ | ⟨ks, rs, t, rfl, p⟩ | ⟨ks, rss, rfl, t, h⟩
  · exact ⟨_, rfl, .inl ⟨xd, ni, p⟩⟩
  · exact ⟨_, rfl, .inr (.inr ⟨ks, rs, t, rfl, p⟩)⟩
  refine ⟨_, rfl, .inr (.inl ⟨ks, rss, t, rfl, ?_⟩)⟩
  have hk := t.kl
  have kl : (ks.map D.int).length = ks.length := List.length_map ..
  have el : (rangeD 0 (ks.length : Int).toNat).length = ks.length := range_len
  refine ⟨T.na_Table_kinds, _, fld_k, ?_⟩
  show _ ∧ _ ∧ ∃ I, _
  rw [kl]
  refine ⟨by omega, by omega, fun i ρ n' => n' = n ∧ ∃ (u2 : SV), ρ = [.d (tabD cs.Table (ks.map D.int) (rss.map tupI)), .d (.int ((prodM rss i : Nat) : Int)), u2] ∧ prodM rss i ≤ 5000, ⟨rfl, _, rfl, Nat.le_of_ble_eq_true rfl⟩, ?_, ?_⟩
  · rintro i x ρ n' hx ⟨rfl, u2, rfl, hp⟩
    obtain ⟨hi, rfl⟩ := range_get hx
    clear hx
    have u := usedL_ok t hi
    have tl := trees_count u
    walk_at "dl"
    refine ⟨_, _, rfl, rfl, .inr (.inr ⟨ks, rss, rfl, t, .inr ⟨i, rfl, hi, ?_⟩⟩)⟩
    show (_ ∨ _) ∧ _
    rw [List.length_map, tl]
    refine ⟨.inl ⟨by omega, by omega⟩, ?_⟩
    have ep : ((prodM rss i : Nat) : Int) * ((manyT (usedL rss i).length : Nat) : Int) = ((prodM rss (i + 1) : Nat) : Int) := by rw [prodM_succ, Int.natCast_mul]
    rw [ep]
    have mono := prodM_mono t (a := i + 1) (b := ks.length) (by omega) (Nat.le_refl _)
    by_cases h5 : 5000 < prodM rss (i + 1)
    · rw [show decide ((5000 : Int) < ((prodM rss (i + 1) : Nat) : Int)) = true from decide_eq_true (by omega)]
      rcases h with ⟨_, p⟩ | ⟨sm, _⟩
      · exact ⟨_, rfl, p⟩
      · have := sm.p
        omega
    · rw [show decide ((5000 : Int) < ((prodM rss (i + 1) : Nat) : Int)) = false from decide_eq_false (by omega)]
      exact ⟨rfl, _, rfl, by omega⟩
  · rintro ρ n' ⟨rfl, u2, rfl, hp⟩
    rw [el] at hp ⊢
    rcases h with ⟨b, _⟩ | ⟨sm, p⟩
    · unfold BigT at b
      omega
    walk_at "dl"
    refine ⟨T.na_Table_kinds, _, fld_k, ?_⟩
    show _ ∧ _ ∧ _ ∧ _
    rw [kl]
    refine ⟨by omega, by omega, by rw [el]; omega, compM_map (f := fun x => .lst ((treesC (usedL rss (toI x).toNat)).map (choiceD (colL rss (toI x).toNat)))) (fun x hx n2 k q => ?_) ?_⟩
    · obtain ⟨i, hi, rfl⟩ := range_mem hx
      have e : (toI (D.int (i : Int))).toNat = i := by show ((i : Int)).toNat = i; omega
      rw [e] at q
      exact ⟨ks, rss, i, rfl, t, hi, q⟩
    · have e : (rangeD 0 (ks.length : Int).toNat).map (fun x => D.lst ((treesC (usedL rss (toI x).toNat)).map (choiceD (colL rss (toI x).toNat)))) = (List.range ks.length).map fun m => D.lst ((treesC (usedL rss m)).map (choiceD (colL rss m))) := by
        unfold rangeD
        rw [List.map_map, Int.toNat_natCast]
        refine List.map_congr_left fun i _ => ?_
        have e : (toI (D.int (0 + (i : Int)))).toNat = i := by show ((0 : Int) + (i : Int)).toNat = i; omega
        show D.lst ((treesC (usedL rss (toI (D.int (0 + (i : Int)))).toNat)).map (choiceD (colL rss (toI (D.int (0 + (i : Int)))).toNat))) = _
        rw [e]
      rw [e]
      exact p

theorem sc_more : FnScope ["start", "choice", "arrows", "lots", "custom_tree", "others"] ["start", "choice"] (defScope s_more) := ⟨rfl, rfl, rfl, by decide +kernel, rfl, by decide +kernel, by decide +kernel⟩
theorem ok_more (T : Txt K mg cs tk0) (D : DefAt K mg "_more" s_more ["start", "choice"]) : Has P w K mg base CX0 1 "_more" ["start", "choice"] (sp0 K TT ds_more) := by
  obtain ⟨f, fd, F, hm, hk, hb⟩ := D
  refine ⟨f, fd, F.okD sc_more (len_more) (fun S cdv A outer s H E hr => ?_), hm, hk, hb⟩
  refine ⟨_, _, (pss_cons (ps_asg (pv 0) (pg_tup rfl (pgs_cons (pg_name (i := 2) sc_more.nd rfl (by first | exact Or.inl rfl | exact Or.inr rfl)) (pgs_cons (pg_name (i := 3) sc_more.nd rfl (by first | exact Or.inl rfl | exact Or.inr rfl)) pgs_nil))))
      (pss_cons (ps_asg (pv 1) (pg_tup rfl (pgs_cons (pg_name (i := 4) sc_more.nd rfl (by first | exact Or.inl rfl | exact Or.inr rfl)) (pgs_cons (pg_name (i := 5) sc_more.nd rfl (by first | exact Or.inl rfl | exact Or.inr rfl)) pgs_nil))))
      (pss_one (ps_ret (pe_tup (pa_cons (pe_op op_addU (pv 2) (pe_tup (pa_cons (pv 4) pa_nil))) (pa_cons (pe_op op_addU (pv 3) (pv 5)) pa_nil))))))),
    (rds_seq (rds_asgG (rd_var (i := 0)) (rdg_two (vs := [2, 3]) (by decide) (by decide)))
      (rds_seq (rds_asgG (rd_var (i := 1)) (rdg_two (vs := [4, 5]) (by decide) (by decide)))
      (rds_ret (rd_tup (rda_cons (rd_op o2_add (rd_var (i := 2)) (rd_tup (rda_cons (rd_var (i := 4)) rda_nil))) (rda_cons (rd_op o2_add (rd_var (i := 3)) (rd_var (i := 5))) rda_nil)))))), ?_⟩
  rintro ss n P ⟨a, b, t, c, rfl, ha, hb, p⟩
  walk_at "dl"
  exact ⟨by omega, by omega, p⟩

theorem sc_any_cross : FnScope ["lots", "others", "lot", "other"] ["lots", "others"] (defScope s_any_cross) := ⟨rfl, rfl, rfl, by decide +kernel, rfl, by decide +kernel, by decide +kernel⟩
theorem ok_any_cross (T : Txt K mg cs tk0) (D : DefAt K mg "_any_cross" s_any_cross ["lots", "others"]) (c_do_cross : Has P w K mg base CX0 1 "do_cross" ["one", "other"] (sp0 K TT ds_do_cross)) : Has P w K mg base CX0 2 "_any_cross" ["lots", "others"] (sp0 K TT ds_any_cross) := by
  obtain ⟨f, fd, F, hm, hk, hb⟩ := D
  obtain ⟨_, _, c_do_cross_ok, c_do_cross_m, c_do_cross_k, c_do_cross_b⟩ := c_do_cross
  refine ⟨f, fd, F.okD sc_any_cross (len_any_cross) (fun S cdv A outer s H E hr => ?_), hm, hk, hb⟩
  refine ⟨_, _, (pss_one (ps_ret (pe_callB (cr_any rfl) (by rfl) T.n_any (by decide +kernel) (pa_cons (pe_lc2 (own := [("lot", 2), ("other", 3)]) (vs1 := [3]) (g := gName 2) (g1 := gName 3) rfl sc_any_cross.nd (pi_tup (pv 0)) (blkOk_by (N := ["lots", "others", "lot", "other"]) (own := [("lot", 2), ("other", 3)]) (sc := defScope s_any_cross) (by decide +kernel)) (by decide) (fun _ _ _ _ _ => (pg_name (i := 2) sc_any_cross.nd rfl (by first | exact Or.inl rfl | exact Or.inr rfl))) (fun _ _ _ _ _ => pts_nil) (fun _ _ _ _ _ => (pi_tup (pv 1))) (fun _ _ _ _ _ => (pg_name (i := 3) sc_any_cross.nd rfl (by first | exact Or.inl rfl | exact Or.inr rfl))) (fun _ _ _ _ _ => pts_nil) (fun _ _ _ _ _ => (pe_call c_do_cross_ok (hr.mono (by decide)) rfl c_do_cross_m c_do_cross_k c_do_cross_b .nil pass0 (pa_cons (pv 2) (pa_cons (pv 3) pa_nil))))) pa_nil)))),
    (rds_ret (rd_cb cal_any (rda_cons (rd_lc2 (rdj_of (rdi_tup (rd_var (i := 0)))) (rdg_name (vs := [2, 3]) (by decide)) (rdi_tup (rd_var (i := 1))) (rdg_name (vs := [3]) (by decide)) rdt_yes (rd_call0 (E := E0) (rda_cons (rd_var (i := 2)) (rda_cons (rd_var (i := 3)) rda_nil)))) rda_nil))), ?_⟩
  rintro ss n P ⟨xs, ys, rfl, lx, ly, hx, hy, p⟩
  walk_at "dl"
  show _ ∧ _
  refine ⟨by rw [List.length_map]; omega, compL_map (f := crossR ys) (fun x hx1 n2 k q => ?_) ?_⟩
  · obtain ⟨a, ha, rfl⟩ := List.mem_map.mp hx1
    refine ⟨rfl, ?_⟩
    show _ ∧ _
    refine ⟨by rw [List.length_map]; omega, ?_⟩
    have e : crossR ys (tupI a) = (ys.map tupI).map fun y => D.bl (crossB a (intsD y)) := by
      unfold crossR
      rw [intsD_tup, List.map_map]
      exact List.map_congr_left fun y _ => by
        show _ = D.bl (crossB a (intsD (tupI y)))
        rw [intsD_tup]
    rw [e] at q
    refine compM_map (f := fun y => D.bl (crossB a (intsD y))) (fun y hy1 n3 k2 q2 => ?_) q
    obtain ⟨b, hb, rfl⟩ := List.mem_map.mp hy1
    rw [intsD_tup] at q2
    exact ⟨rfl, a, b, rfl, hx a ha, hy b hb, q2⟩
  · rw [cross_rows]
    refine any_bls ?_
    rw [← cross_any, Bool.not_not] at p
    exact p

theorem sc_good_arrows : FnScope ["table", "found", "told", "start", "choice", "arrows", "_"] ["table"] (defScope s_good_arrows) := ⟨rfl, rfl, rfl, by decide +kernel, rfl, by decide +kernel, by decide +kernel⟩
theorem ok_good_arrows (T : Txt K mg cs tk0) (D : DefAt K mg "good_arrows" s_good_arrows ["table"]) (c_all_told : Has P w K mg base (L2.CX P w) 8 "_all_told" ["table"] (spX K TT (ds_all_told cs))) (c_any_cross : Has P w K mg base CX0 2 "_any_cross" ["lots", "others"] (sp0 K TT ds_any_cross)) (c_more : Has P w K mg base CX0 1 "_more" ["start", "choice"] (sp0 K TT ds_more)) : HasF P w K mg base (L2.CX P w) 9 "good_arrows" s_good_arrows ["table"] (spO K TT (ds_good_arrows cs)) := by
  obtain ⟨f, fd, F, hm, hk, hb⟩ := D
  obtain ⟨_, _, c_all_told_ok, c_all_told_m, c_all_told_k, c_all_told_b⟩ := c_all_told
  obtain ⟨_, _, c_any_cross_ok, c_any_cross_m, c_any_cross_k, c_any_cross_b⟩ := c_any_cross
  obtain ⟨_, _, c_more_ok, c_more_m, c_more_k, c_more_b⟩ := c_more
  refine ⟨f, fd, F.okXO sc_good_arrows (len_good_arrows cs) (fun S cdv A outer s H E hr => ?_), hm, hk, hb, F⟩
  have tk := takes_of (X := cxOf (L2.CX P w) P w K mg base ["table", "found", "told", "start", "choice", "arrows", "_"] "good_arrows" (defScope s_good_arrows) f cdv A outer s H E) (E := E) rfl rfl rfl rfl
  refine ⟨_, _, (pss_cons (ps_set (i := 1) sc_good_arrows.nd rfl (by first | exact Or.inl rfl | exact Or.inr rfl) (pe_lst (pa_cons (pe_tup (pa_cons (pe_tup pa_nil) (pa_cons (pe_tup pa_nil) pa_nil))) pa_nil)))
      (pss_cons (ps_for (passes_of rfl) rfl (pi_list (pe_call c_all_told_ok (hr.mono (by decide)) rfl c_all_told_m c_all_told_k c_all_told_b .nil (passes_call tk (fun _ _ _ _ h => h)) (pa_cons (pv 0) pa_nil))) (pg_name (i := 2) sc_good_arrows.nd rfl (by first | exact Or.inl rfl | exact Or.inr rfl)) (pss_one (ps_setLc2 (i := 1) (own := [("start", 3), ("choice", 4)]) (vs1 := [4]) (g := gName 3) (g1 := gName 4) rfl sc_good_arrows.nd rfl rfl (sw_true rfl rfl rfl (by decide +kernel)) (pi_list (pv 1)) (blkOk_by (N := ["table", "found", "told", "start", "choice", "arrows", "_"]) (own := [("start", 3), ("choice", 4)]) (sc := defScope s_good_arrows) (by decide +kernel)) (by decide) (fun _ _ _ _ _ => (pg_name (i := 3) sc_good_arrows.nd rfl (by first | exact Or.inl rfl | exact Or.inr rfl))) (fun _ _ _ _ _ => pts_nil) (fun _ _ _ _ _ => (pi_list (pv 2))) (fun _ _ _ _ _ => (pg_name (i := 4) sc_good_arrows.nd rfl (by first | exact Or.inl rfl | exact Or.inr rfl))) (fun _ _ _ _ _ => (pts_one (pt_not (pt_val (pe_call c_any_cross_ok (hr.mono (by decide)) rfl c_any_cross_m c_any_cross_k c_any_cross_b .nil pass0 (pa_cons (pe_ix ix_seq (pv 3) pe_int (fun _ _ => rfl)) (pa_cons (pe_ix ix_seq (pv 4) pe_int (fun _ _ => rfl)) pa_nil))))))) (fun _ _ _ _ _ => (pe_call c_more_ok (hr.mono (by decide)) rfl c_more_m c_more_k c_more_b .nil pass0 (pa_cons (pv 3) (pa_cons (pv 4) pa_nil)))))))
      (pss_one (ps_ret (pe_lc (own := [("arrows", 5), ("_", 6)]) (g := gTup _ 2 (gCons (gName 5) (gCons (gName 6) gNil))) rfl sc_good_arrows.nd (pi_list (pv 1)) (blkOk_by (N := ["table", "found", "told", "start", "choice", "arrows", "_"]) (own := [("arrows", 5), ("_", 6)]) (sc := defScope s_good_arrows) (by decide +kernel)) (fun _ _ _ _ _ => (pg_tup rfl (pgs_cons (pg_name (i := 5) sc_good_arrows.nd rfl (by first | exact Or.inl rfl | exact Or.inr rfl)) (pgs_cons (pg_name (i := 6) sc_good_arrows.nd rfl (by first | exact Or.inl rfl | exact Or.inr rfl)) pgs_nil)))) (fun _ _ _ _ _ => pts_nil) (fun _ _ _ _ _ => (pv 5))))))),
    (rdso_seq (rds_set (rd_lst (rda_cons (rd_tup (rda_cons (rd_tup rda_nil) (rda_cons (rd_tup rda_nil) rda_nil))) rda_nil)))
      (rdso_seq (rds_for (rdi_list (rd_callX (rda_cons (rd_var (i := 0)) rda_nil))) (rdg_name (vs := [2]) (by decide)) (rds_set (rd_lc2 (rdj_of (rdi_list (rd_var (i := 1)))) (rdg_name (vs := [3, 4]) (by decide)) (rdi_list (rd_var (i := 2))) (rdg_name (vs := [4]) (by decide)) (rdt_not (rdt_B (rd_call0 (E := E0) (rda_cons (rd_op o2_ix (rd_var (i := 3)) rd_int) (rda_cons (rd_op o2_ix (rd_var (i := 4)) rd_int) rda_nil))))) (rd_call0 (E := E0) (rda_cons (rd_var (i := 3)) (rda_cons (rd_var (i := 4)) rda_nil))))))
      (rdso_ret (rdn_lc (rdj_of (rdi_list (rd_var (i := 1)))) (rdg_two (vs := [5, 6]) (by decide) (by decide)) rdt_yes (rd_var (i := 5)))))), ?_⟩
  rintro ss n P XP ⟨d, rfl, h⟩
  walk_at "dl"
  rcases h with ⟨xd, ni, p⟩ | ⟨ks, rs, t, rfl, p⟩ | ⟨ks, rss, rfl, t, h⟩
  · exact ⟨_, rfl, .inl ⟨xd, ni, p⟩⟩
  · exact ⟨_, rfl, .inr (.inl ⟨ks, rs, t, rfl, p⟩)⟩
  rcases h with ⟨b, p⟩ | ⟨sm, p⟩
  · exact ⟨_, rfl, .inr (.inr ⟨ks, rss, rfl, t, .inl ⟨b, p⟩⟩)⟩
  refine ⟨_, rfl, .inr (.inr ⟨ks, rss, rfl, t, .inr ⟨sm, ?_⟩⟩)⟩
  have hk := t.kl
  have hl := t.rl
  show ∃ I, _
  refine ⟨fun i ρ n' => n' = n ∧ ∃ (u2 u3 u4 u5 u6 : SV), ρ = [.d (tabD cs.Table (ks.map D.int) (rss.map tupI)), .d (.lst ((statesL rss i).map stateT)), u2, u3, u4, u5, u6] ∧ plainS [u5, u6] = true, ⟨rfl, _, _, _, _, _, rfl, rfl⟩, ?_, ?_⟩
  · rintro i x ρ n' hx ⟨rfl, u2, u3, u4, u5, u6, rfl, pl⟩
    rw [List.getElem?_map] at hx
    obtain ⟨m, hm, rfl⟩ := Option.map_eq_some_iff.mp hx
    obtain ⟨hi, hm2⟩ := List.getElem?_eq_some_iff.mp hm
    rw [List.getElem_range] at hm2
    subst hm2
    rw [List.length_range] at hi
    clear hx hm
    have u := usedL_ok t hi
    have tl := trees_count u
    have l4 := sm.l i hi
    have m4 := manyT_le4 l4
    have sl := states_len t (m := i) (by omega)
    have ss := sm.s i hi
    show _ ∧ _
    refine ⟨by rw [List.length_map]; omega, compL_map (f := fun x => extT rss i x) (fun x hx n2 k q => ?_) ?_⟩
    · obtain ⟨s, hs, rfl⟩ := List.mem_map.mp hx
      have ok := states_ok t (by omega) s hs
      rw [extT_state] at q
      refine ⟨by simpa [plainS] using pl, ?_⟩
      show _ ∧ _
      refine ⟨by rw [List.length_map]; omega, compM_filter (f := extF rss i s) (fun y hy n3 k2 q2 => ?_) ?_⟩
      · obtain ⟨ts, hts, rfl⟩ := List.mem_map.mp hy
        rw [extF_choice] at q2
        unfold inLc
        walk_at "dl"
        have c := trees_in u hts
        have cl := c.l
        have ul := u.l
        have sb := ok.b
        have e8 : (sidesC ts (colL rss i)).length = ts.length := List.length_map ..
        have e9 : (colL rss i).length = rss.length := List.length_map ..
        refine ⟨tt s.2, at_nat (j := 1) rfl, tt (sidesC ts (colL rss i)), at_nat (j := 1) rfl, ?_⟩
        refine ⟨_, _, rfl, by omega, by omega, fun x hx => by have := ok.c x hx; omega, fun x hx => by have := sides_len x hx; omega, ?_⟩
        cases ha : agreeB s.2 (sidesC ts (colL rss i)) with
        | false => rw [ha] at q2; exact q2
        | true =>
          rw [ha] at q2
          have sa := ok.a
          refine ⟨s.1.map tieD, s.2.map tupI, tieD ts, (sidesC ts (colL rss i)).map tupI, rfl, by rw [List.length_map]; omega, by rw [List.length_map, List.length_map]; omega, ?_⟩
          have e7 : stateT (s.1 ++ [ts], s.2 ++ sidesC ts (colL rss i)) = .tup [.tup (s.1.map tieD ++ [tieD ts]), .tup (s.2.map tupI ++ (sidesC ts (colL rss i)).map tupI)] := by
            unfold stateT arrowD tt
            rw [List.map_append, List.map_append]
            rfl
          rw [if_pos rfl, e7] at q2
          exact q2
      · rw [extF_map]
        exact q
    · rw [extT_map]
      exact ⟨rfl, _, _, _, _, _, rfl, pl⟩
  · rintro ρ n' ⟨rfl, u2, u3, u4, u5, u6, rfl, pl⟩
    rw [List.length_map, List.length_range]
    have sl := states_len t (Nat.le_refl _)
    have sp := sm.p
    show _ ∧ _
    refine ⟨by rw [List.length_map]; omega, compM_map (f := fstD) (fun x hx n2 k q => ?_) ?_⟩
    · obtain ⟨s, hs, rfl⟩ := List.mem_map.mp hx
      exact q
    · have e : ((statesL rss ks.length).map stateT).map fstD = (goodL rss ks.length).map arrowD := by
        unfold goodL
        rw [List.map_map, List.map_map]
        rfl
      rw [e]
      exact p

theorem sc_law_longer : FnScope ["scope", "spot", "found", "later", "column_here", "several", "told", "known", "some", "lots"] ["scope", "spot", "found"] (defScope s_law_longer) := ⟨rfl, rfl, rfl, by decide +kernel, rfl, by decide +kernel, by decide +kernel⟩
theorem ok_law_longer (T : Txt K mg cs tk0) (D : DefAt K mg "_law_longer" s_law_longer ["scope", "spot", "found"]) (c_law_column : Has P w K mg base CX0 1 "_law_column" ["scope", "spot"] (sp0 K TT ds_law_column)) (c_law_custom_trees : Has P w K mg base CX0 2 "_law_custom_trees" ["customs_here"] (sp0 K TT ds_law_custom_trees)) (c_law_used : Has P w K mg base CX0 2 "_law_used" ["scope", "spot"] (sp0 K TT ds_law_used)) (c_law_sides : Has P w K mg base CX0 2 "_law_sides" ["column_here", "some"] (sp0 K TT ds_law_sides)) (c_law_agree : Has P w K mg base CX0 2 "_law_agree" ["one", "other"] (sp0 K TT ds_law_agree)) : Has P w K mg base CX0 3 "_law_longer" ["scope", "spot", "found"] (sp0 K TT ds_law_longer) := by
  obtain ⟨f, fd, F, hm, hk, hb⟩ := D
  obtain ⟨_, _, c_law_column_ok, c_law_column_m, c_law_column_k, c_law_column_b⟩ := c_law_column
  obtain ⟨_, _, c_law_custom_trees_ok, c_law_custom_trees_m, c_law_custom_trees_k, c_law_custom_trees_b⟩ := c_law_custom_trees
  obtain ⟨_, _, c_law_used_ok, c_law_used_m, c_law_used_k, c_law_used_b⟩ := c_law_used
  obtain ⟨_, _, c_law_sides_ok, c_law_sides_m, c_law_sides_k, c_law_sides_b⟩ := c_law_sides
  obtain ⟨_, _, c_law_agree_ok, c_law_agree_m, c_law_agree_k, c_law_agree_b⟩ := c_law_agree
  refine ⟨f, fd, F.okD sc_law_longer (len_law_longer) (fun S cdv A outer s H E hr => ?_), hm, hk, hb⟩
  refine ⟨_, _, (pss_cons (ps_set (i := 3) sc_law_longer.nd rfl (by first | exact Or.inl rfl | exact Or.inr rfl) (pe_lst pa_nil))
      (pss_cons (ps_set (i := 4) sc_law_longer.nd rfl (by first | exact Or.inl rfl | exact Or.inr rfl) (pe_call c_law_column_ok (hr.mono (by decide)) rfl c_law_column_m c_law_column_k c_law_column_b .nil pass0 (pa_cons (pv 0) (pa_cons (pv 1) pa_nil))))
      (pss_cons (ps_setLc (i := 5) (own := [("some", 8)]) (g := gName 8) rfl sc_law_longer.nd rfl rfl (sw_true rfl rfl rfl (by decide +kernel)) (pi_list (pe_call c_law_custom_trees_ok (hr.mono (by decide)) rfl c_law_custom_trees_m c_law_custom_trees_k c_law_custom_trees_b .nil pass0 (pa_cons (pe_call c_law_used_ok (hr.mono (by decide)) rfl c_law_used_m c_law_used_k c_law_used_b .nil pass0 (pa_cons (pv 0) (pa_cons (pv 1) pa_nil))) pa_nil))) (blkOk_by (N := ["scope", "spot", "found", "later", "column_here", "several", "told", "known", "some", "lots"]) (own := [("some", 8)]) (sc := defScope s_law_longer) (by decide +kernel)) (fun _ _ _ _ _ => (pg_name (i := 8) sc_law_longer.nd rfl (by first | exact Or.inl rfl | exact Or.inr rfl))) (fun _ _ _ _ _ => pts_nil) (fun _ _ _ _ _ => (pe_tup (pa_cons (pv 8) (pa_cons (pe_call c_law_sides_ok (hr.mono (by decide)) rfl c_law_sides_m c_law_sides_k c_law_sides_b .nil pass0 (pa_cons (pv 4) (pa_cons (pv 8) pa_nil))) pa_nil)))))
      (pss_cons (ps_for PassesOwn.never rfl (pi_list (pv 2)) (pg_tup rfl (pgs_cons (pg_name (i := 6) sc_law_longer.nd rfl (by first | exact Or.inl rfl | exact Or.inr rfl)) (pgs_cons (pg_name (i := 7) sc_law_longer.nd rfl (by first | exact Or.inl rfl | exact Or.inr rfl)) pgs_nil))) (pss_one (ps_set (i := 3) sc_law_longer.nd rfl (by first | exact Or.inl rfl | exact Or.inr rfl) (pe_op SCo.op_catL (pv 3) (pe_lc (own := [("some", 8), ("lots", 9)]) (g := gTup _ 2 (gCons (gName 8) (gCons (gName 9) gNil))) rfl sc_law_longer.nd (pi_list (pv 5)) (blkOk_by (N := ["scope", "spot", "found", "later", "column_here", "several", "told", "known", "some", "lots"]) (own := [("some", 8), ("lots", 9)]) (sc := defScope s_law_longer) (by decide +kernel)) (fun _ _ _ _ _ => (pg_tup rfl (pgs_cons (pg_name (i := 8) sc_law_longer.nd rfl (by first | exact Or.inl rfl | exact Or.inr rfl)) (pgs_cons (pg_name (i := 9) sc_law_longer.nd rfl (by first | exact Or.inl rfl | exact Or.inr rfl)) pgs_nil)))) (fun _ _ _ _ _ => (pts_one (pt_val (pe_call c_law_agree_ok (hr.mono (by decide)) rfl c_law_agree_m c_law_agree_k c_law_agree_b .nil pass0 (pa_cons (pv 7) (pa_cons (pv 9) pa_nil)))))) (fun _ _ _ _ _ => (pe_tup (pa_cons (pe_op op_addU (pv 6) (pe_tup (pa_cons (pv 8) pa_nil))) (pa_cons (pe_op SCo.op_catL (pv 7) (pv 9)) pa_nil)))))))))
      (pss_one (ps_ret (pv 3))))))),
    (rds_seq (rds_set (rd_lst rda_nil))
      (rds_seq (rds_set (rd_call0 (E := E0) (rda_cons (rd_var (i := 0)) (rda_cons (rd_var (i := 1)) rda_nil))))
      (rds_seq (rds_set (rd_lc (rdj_of (rdi_list (rd_call0 (E := E0) (rda_cons (rd_call0 (E := E0) (rda_cons (rd_var (i := 0)) (rda_cons (rd_var (i := 1)) rda_nil))) rda_nil)))) (rdg_name (vs := [8]) (by decide)) rdt_yes (rd_tup (rda_cons (rd_var (i := 8)) (rda_cons (rd_call0 (E := E0) (rda_cons (rd_var (i := 4)) (rda_cons (rd_var (i := 8)) rda_nil))) rda_nil)))))
      (rds_seq (rds_for (rdi_list (rd_var (i := 2))) (rdg_two (vs := [6, 7]) (by decide) (by decide)) (rds_set (rd_op o2_addL (rd_var (i := 3)) (rd_lc (rdj_of (rdi_list (rd_var (i := 5)))) (rdg_two (vs := [8, 9]) (by decide) (by decide)) (rdt_B (rd_call0 (E := E0) (rda_cons (rd_var (i := 7)) (rda_cons (rd_var (i := 9)) rda_nil)))) (rd_tup (rda_cons (rd_op o2_add (rd_var (i := 6)) (rd_tup (rda_cons (rd_var (i := 8)) rda_nil))) (rda_cons (rd_op o2_addL (rd_var (i := 7)) (rd_var (i := 9))) rda_nil)))))))
      (rds_ret (rd_var (i := 3))))))), ?_⟩
  rintro ss n P ⟨ks, rss, m, rfl, t, hm, sm, p⟩
  walk_at "dl"
  have u := usedL_ok t hm
  have ul := u.l
  have hl := t.rl
  have l4 := sm.l m hm
  have m4 := manyT_le4 l4
  have tl := trees_count u
  have hk := t.kl
  have sl := states_len t (m := m) (by omega)
  have ss := sm.s m hm
  have e9 : (colL rss m).length = rss.length := List.length_map ..
  have hcu : ∀ x ∈ colL rss m, x ∈ usedL rss m := fun x hx => by
    unfold colL at hx
    obtain ⟨r, hr, rfl⟩ := List.mem_map.mp hx
    exact (mem_usedL t hm).mpr ⟨r, hr, rfl⟩
  refine ⟨ks, rss, m, rfl, t, hm, ?_⟩
  refine ⟨ks, rss, m, rfl, t, hm, ?_⟩
  refine ⟨_, rfl, u, by omega, ?_⟩
  show _ ∧ _
  refine ⟨by rw [List.length_map]; omega, compM_map (f := sideF (colL rss m)) (fun x hx n2 k q => ?_) ?_⟩
  · obtain ⟨ts, hts, rfl⟩ := List.mem_map.mp hx
    rw [sideF_tie] at q
    exact ⟨_, _, _, rfl, u, trees_in u hts, by omega, by omega, hcu, q⟩
  have e1 : ((treesC (usedL rss m)).map tieD).map (sideF (colL rss m)) = (treesC (usedL rss m)).map (sidedD (colL rss m)) := by
    rw [List.map_map]
    exact List.map_congr_left fun ts _ => sideF_tie
  rw [e1]
  have total : (statesL rss (m + 1)).length ≤ 5000 := Nat.le_trans (states_len t (by omega)) (Nat.le_trans (prodM_mono t (by omega) (Nat.le_refl _)) sm.p)
  rw [statesL] at total
  refine ⟨fun i ρ n' => n' = n ∧ ∃ (u6 u7 u8 u9 : SV), ρ = [.d (dicT (ks.map D.int) (rss.map tupI)), .d (.int m), .d (.lst ((statesL rss m).map stateD)), .d (.lst ((((statesL rss m).take i).flatMap (extS rss m)).map stateD)), .d (tupI (colL rss m)), .d (.lst ((treesC (usedL rss m)).map (sidedD (colL rss m)))), u6, u7, u8, u9], ⟨rfl, _, _, _, _, rfl⟩, ?_, ?_⟩
  · rintro i x ρ n' hx ⟨rfl, u6, u7, u8, u9, rfl⟩
    rw [List.getElem?_map] at hx
    obtain ⟨s, hs, rfl⟩ := Option.map_eq_some_iff.mp hx
    clear hx
    have ok := states_ok t (by omega) s (List.mem_of_getElem? hs)
    have sb := ok.b
    have sa := ok.a
    show _ ∧ _
    refine ⟨by rw [List.length_map]; omega, compM_filter (f := extG rss m s) (fun y hy n3 k2 q2 => ?_) ?_⟩
    · obtain ⟨ts, hts, rfl⟩ := List.mem_map.mp hy
      rw [extG_sided] at q2
      have c := trees_in u hts
      have cl := c.l
      have e8 : (sidesC ts (colL rss m)).length = ts.length := List.length_map ..
      unfold sidedD
      walk_at "dl"
      refine ⟨_, _, rfl, fun x hx => by have := ok.c x hx; omega, fun x hx => by have := sides_len x hx; omega, by omega, by omega, ?_⟩
      cases ha : agreeB s.2 (sidesC ts (colL rss m)) with
      | false => rw [ha] at q2; exact q2
      | true =>
        rw [ha, if_pos rfl] at q2
        show _ ∧ _ ∧ k2 _ n3
        have e7 : stateD (s.1 ++ [ts], s.2 ++ sidesC ts (colL rss m)) = .tup [.tup (s.1.map tieD ++ [tieD ts]), .lst (s.2.map tupI ++ (sidesC ts (colL rss m)).map tupI)] := by
          unfold stateD arrowD
          rw [List.map_append, List.map_append]
          rfl
        rw [e7] at q2
        exact ⟨by rw [List.length_map, List.length_singleton]; omega, by rw [List.length_map, List.length_map]; omega, q2⟩
    · rw [extG_map]
      have et : ((statesL rss m).take (i + 1)).flatMap (extS rss m) = ((statesL rss m).take i).flatMap (extS rss m) ++ extS rss m s := by
        rw [List.take_add_one, hs, List.flatMap_append]
        show _ ++ (extS rss m s ++ []) = _
        rw [List.append_nil]
      have lt : (((statesL rss m).take (i + 1)).flatMap (extS rss m)).length ≤ 5000 := by
        refine Nat.le_trans ?_ total
        have e : (statesL rss m).flatMap (extS rss m) = ((statesL rss m).take (i + 1)).flatMap (extS rss m) ++ ((statesL rss m).drop (i + 1)).flatMap (extS rss m) := by
          rw [← List.flatMap_append, List.take_append_drop]
        rw [e, List.length_append]
        omega
      rw [et, List.length_append] at lt
      show _ ∧ _ ∧ _
      rw [et, List.map_append]
      exact ⟨by rw [List.length_map, List.length_map]; omega, rfl, _, _, _, _, rfl⟩
  · rintro ρ n' ⟨rfl, u6, u7, u8, u9, rfl⟩
    rw [List.length_map, List.take_length]
    exact p

theorem sc_law_every_good : FnScope ["scope", "found", "spot", "told", "known"] ["scope"] (defScope s_law_every_good) := ⟨rfl, rfl, rfl, by decide +kernel, rfl, by decide +kernel, by decide +kernel⟩
theorem ok_law_every_good (T : Txt K mg cs tk0) (D : DefAt K mg "_law_every_good" s_law_every_good ["scope"]) (c_law_longer : Has P w K mg base CX0 3 "_law_longer" ["scope", "spot", "found"] (sp0 K TT ds_law_longer)) : Has P w K mg base CX0 4 "_law_every_good" ["scope"] (sp0 K TT ds_law_every_good) := by
  obtain ⟨f, fd, F, hm, hk, hb⟩ := D
  obtain ⟨_, _, c_law_longer_ok, c_law_longer_m, c_law_longer_k, c_law_longer_b⟩ := c_law_longer
  refine ⟨f, fd, F.okD sc_law_every_good (len_law_every_good) (fun S cdv A outer s H E hr => ?_), hm, hk, hb⟩
  refine ⟨_, _, (pss_cons (ps_set (i := 1) sc_law_every_good.nd rfl (by first | exact Or.inl rfl | exact Or.inr rfl) (pe_lst (pa_cons (pe_tup (pa_cons (pe_tup pa_nil) (pa_cons (pe_lst pa_nil) pa_nil))) pa_nil)))
      (pss_cons (ps_for PassesOwn.never rfl (pi_range1 (by rfl) T.n_range (pa_cons (pe_callB call_lenU (by rfl) T.n_len (by decide +kernel) (pa_cons (pe_dget (hu_of hr) (pv 0) pe_str (fun _ _ => rfl)) pa_nil)) pa_nil)) (pg_name (i := 2) sc_law_every_good.nd rfl (by first | exact Or.inl rfl | exact Or.inr rfl)) (pss_one (ps_set (i := 1) sc_law_every_good.nd rfl (by first | exact Or.inl rfl | exact Or.inr rfl) (pe_call c_law_longer_ok (hr.mono (by decide)) rfl c_law_longer_m c_law_longer_k c_law_longer_b .nil pass0 (pa_cons (pv 0) (pa_cons (pv 2) (pa_cons (pv 1) pa_nil)))))))
      (pss_one (ps_ret (pe_lc (own := [("told", 3), ("known", 4)]) (g := gTup _ 2 (gCons (gName 3) (gCons (gName 4) gNil))) rfl sc_law_every_good.nd (pi_list (pv 1)) (blkOk_by (N := ["scope", "found", "spot", "told", "known"]) (own := [("told", 3), ("known", 4)]) (sc := defScope s_law_every_good) (by decide +kernel)) (fun _ _ _ _ _ => (pg_tup rfl (pgs_cons (pg_name (i := 3) sc_law_every_good.nd rfl (by first | exact Or.inl rfl | exact Or.inr rfl)) (pgs_cons (pg_name (i := 4) sc_law_every_good.nd rfl (by first | exact Or.inl rfl | exact Or.inr rfl)) pgs_nil)))) (fun _ _ _ _ _ => pts_nil) (fun _ _ _ _ _ => (pv 3))))))),
    (rds_seq (rds_set (rd_lst (rda_cons (rd_tup (rda_cons (rd_tup rda_nil) (rda_cons (rd_lst rda_nil) rda_nil))) rda_nil)))
      (rds_seq (rds_for (rdi_range1 (rda_cons (rd_cb cal_len (rda_cons (rd_dget (rd_var (i := 0)) rd_str) rda_nil)) rda_nil)) (rdg_name (vs := [2]) (by decide)) (rds_set (rd_call0 (E := E0) (rda_cons (rd_var (i := 0)) (rda_cons (rd_var (i := 2)) (rda_cons (rd_var (i := 1)) rda_nil))))))
      (rds_ret (rd_lc (rdj_of (rdi_list (rd_var (i := 1)))) (rdg_two (vs := [3, 4]) (by decide) (by decide)) rdt_yes (rd_var (i := 3)))))), ?_⟩
  rintro ss n P ⟨ks, rss, rfl, t, sm, p⟩
  walk_at "dl"
  have hk := t.kl
  have kl : (ks.map D.int).length = ks.length := List.length_map ..
  have el : (rangeD 0 (ks.length : Int).toNat).length = ks.length := range_len
  refine ⟨_, vd_k, ?_⟩
  show _ ∧ _ ∧ ∃ I, _
  rw [kl]
  refine ⟨by omega, by omega, fun i ρ n' => n' = n ∧ ∃ (u2 u3 u4 : SV), ρ = [.d (dicT (ks.map D.int) (rss.map tupI)), .d (.lst ((statesL rss i).map stateD)), u2, u3, u4], ⟨rfl, _, _, _, rfl⟩, ?_, ?_⟩
  · rintro i x ρ n' hx ⟨rfl, u2, u3, u4, rfl⟩
    obtain ⟨hi, rfl⟩ := range_get hx
    exact ⟨ks, rss, i, rfl, t, hi, sm, rfl, _, _, _, rfl⟩
  · rintro ρ n' ⟨rfl, u2, u3, u4, rfl⟩
    rw [el]
    have sl := states_len t (Nat.le_refl _)
    have sp := sm.p
    show _ ∧ _
    refine ⟨by rw [List.length_map]; omega, compM_map (f := fstD) (fun x hx n2 k q => ?_) ?_⟩
    · obtain ⟨s, hs, rfl⟩ := List.mem_map.mp hx
      exact q
    · have e : ((statesL rss ks.length).map stateD).map fstD = (goodL rss ks.length).map arrowD := by
        unfold goodL
        rw [List.map_map, List.map_map]
        rfl
      rw [e]
      exact p

theorem sc_law_is_right : FnScope ["scope", "told", "table", "due"] ["scope"] (defScope s_law_is_right) := ⟨rfl, rfl, rfl, by decide +kernel, rfl, by decide +kernel, by decide +kernel⟩
theorem ok_law_is_right (T : Txt K mg cs tk0) (D : DefAt K mg "_law_is_right" s_law_is_right ["scope"]) (c_law_every_good : Has P w K mg base CX0 4 "_law_every_good" ["scope"] (sp0 K TT ds_law_every_good)) (c_law_made : Has P w K mg base CX0 8 "_law_made" ["scope"] (sp0 K TT (ds_law_made cs))) (c_good_arrows : HasF P w K mg base (L2.CX P w) 9 "good_arrows" s_good_arrows ["table"] (spO K TT (ds_good_arrows cs))) : HasG P w K mg base CX0 10 "_law_is_right" ["scope"] (sp0 K TT (ds_law_is_right cs)) := by
  obtain ⟨f, fd, F, hm, hk, hb⟩ := D
  obtain ⟨_, _, c_law_every_good_ok, c_law_every_good_m, c_law_every_good_k, c_law_every_good_b⟩ := c_law_every_good
  obtain ⟨_, _, c_law_made_ok, c_law_made_m, c_law_made_k, c_law_made_b⟩ := c_law_made
  obtain ⟨_, _, c_good_arrows_ok, c_good_arrows_m, c_good_arrows_k, c_good_arrows_b, c_good_arrows_F⟩ := c_good_arrows
  refine ⟨f, fd, fnG_okD F sc_law_is_right (len_law_is_right cs) (fun S cdv A outer s H E hg hr => ?_), hm, hk, hb⟩
  refine ⟨_, _, (pss_cons (ps_par (i := 2) (j := 3) rfl sc_law_is_right.nd rfl rfl (by decide) rfl rfl (pa_cons (pe_call c_law_made_ok (hr.mono (by decide)) rfl c_law_made_m c_law_made_k c_law_made_b .nil pass0 (pa_cons (pv 0) pa_nil)) (pa_cons (pe_call c_law_every_good_ok (hr.mono (by decide)) rfl c_law_every_good_m c_law_every_good_k c_law_every_good_b .nil pass0 (pa_cons (pv 0) pa_nil)) pa_nil)) (by rfl))
      (pss_cons (ps_set (i := 1) sc_law_is_right.nd rfl (by first | exact Or.inl rfl | exact Or.inr rfl) (pe_call c_good_arrows_ok (hr.mono (by decide)) rfl c_good_arrows_m c_good_arrows_k c_good_arrows_b .nil passL (pa_cons (pv 2) pa_nil)))
      (pss_cons (ps_if (PW.pt (pw_or (pt_not (pt_val (pe_callB call_isD (by rfl) T.n_isinstance (by decide +kernel) (pa_cons (pv 1) (pa_cons (pe_bltn rfl T.n_list (by decide +kernel) (v := .ty "list") rfl) pa_nil))))) (pw_or1 (pt_cmpR (op_neU hr.units) (pe_callB (call_reprL hg hr.units) (by rfl) T.n_repr (by decide +kernel) (pa_cons (pv 1) pa_nil)) (pe_callB (call_reprL hg hr.units) (by rfl) T.n_repr (by decide +kernel) (pa_cons (pv 3) pa_nil)) (nomark _))))) (pss_one (ps_ret pe_bl)) pss_nil)
      (pss_cons (ps_expr (pe_bm PySem.F.plainAttrs_list PySem.F.slot_list_append PySem.F.type_list_append mt_append (pv 1) (pa_cons pe_non pa_nil)))
      (pss_one (ps_ret (pe_cmpR (op_eqU hr.units) (pe_callB (call_reprL hg hr.units) (by rfl) T.n_repr (by decide +kernel) (pa_cons (pe_callN0 c_good_arrows_ok (hr.mono (by decide)) rfl c_good_arrows_m c_good_arrows_k (kbn_of (n := 0) (ks := ["table"]) (ix := [0]) c_good_arrows_F (fun _ _ _ _ _ _ us ws h1 h2 => match us, ws, h1, h2 with | [], [_], _, _ => rfl)) passL (pk_cons (pv 2) pk_nil)) pa_nil)) (pe_callB (call_reprL hg hr.units) (by rfl) T.n_repr (by decide +kernel) (pa_cons (pv 3) pa_nil)) (nomark _)))))))),
    (rds_seq (rds_par (i := 2) (j := 3) (rda_cons (rd_call0 (E := E0) (rda_cons (rd_var (i := 0)) rda_nil)) (rda_cons (rd_call0 (E := E0) (rda_cons (rd_var (i := 0)) rda_nil)) rda_nil)))
      (rds_seq (rds_setO (rdn_callO0 (rda_cons (rd_var (i := 2)) rda_nil)))
      (rds_seq (rds_if (rdt_view (i := 1) (rdt_or (rdt_not (rdt_B (rd_isT (by decide) (rd_var (i := 1))))) (rdt_test (rd_op o2_ne (rd_cb cal_reprL (rda_cons (rd_var (i := 1)) rda_nil)) (rd_cb cal_reprL (rda_cons (rd_var (i := 3)) rda_nil)))))) (rds_ret rd_bl) rds_next)
      (rds_seq (rds_appO (i := 1) rd_non)
      (rds_ret (rd_op o2_eq (rd_cb cal_reprL (rda_cons (rd_ofN (rdn_callKwO (E' := E0) (DS := (ds_good_arrows cs)) (ix := [0]) rda_nil (rda_cons (rd_var (i := 2)) rda_nil))) rda_nil)) (rd_cb cal_reprL (rda_cons (rd_var (i := 3)) rda_nil)))))))), ?_⟩
  rintro ss n P ⟨ks, rss, rfl, t, sm, p⟩
  walk_at "dl"
  have rn : nxs (rss.map tupI) = true := nxs_of fun d hd => by
    obtain ⟨r, _, rfl⟩ := List.mem_map.mp hd
    exact nxs_ints
  refine ⟨ks.map D.int, rss.map tupI, rfl, nxs_ints, rn, kinds_ok t.kl t.kb, full_rows t, ?_⟩
  refine ⟨ks, rss, rfl, t, sm, ?_⟩
  obtain ⟨pr, er, okr⟩ := good_repr t sm
  have gl : (goodL rss ks.length).length ≤ 5000 := by
    unfold goodL
    rw [List.length_map]
    exact Nat.le_trans (states_len t (Nat.le_refl _)) sm.p
  refine ⟨_, rfl, .inr (.inr ⟨ks, rss, rfl, t, .inr ⟨sm, ?_⟩⟩)⟩
  refine ⟨trivial, pr, er, okr, pr, er, okr, ?_⟩
  show eqP not (.str _) (.str _) _
  rw [eqP_str, decide_eq_true rfl]
  refine ⟨by rw [List.length_map]; omega, ?_⟩
  refine ⟨_, rfl, .inr (.inr ⟨ks, rss, rfl, t, .inr ⟨sm, ?_⟩⟩)⟩
  refine ⟨pr, er, okr, pr, er, okr, ?_⟩
  show eqP id (.str _) (.str _) _
  rw [eqP_str, decide_eq_true rfl]
  exact p

theorem sc_law : FnScope ["script", "state", "turn", "scope", "caught", "large", "odd", "check"] ["script"] (defScope s_law) := ⟨rfl, rfl, rfl, by decide +kernel, rfl, by decide +kernel, by decide +kernel⟩
theorem ok_law {f c9 : Addr} {fd : FuncData} (T : Txt K mg cs tk0) (F : FunC K "law" "law" s_law f fd c9) (c_law_begun : Has P w K mg base CX0 1 "_law_begun" ["script"] (spBegun K)) (c_law_drawn : Has P w K mg base CX0 5 "_law_drawn" ["state"] (sp0 K TT ds_law_drawn)) (c_law_is_right : HasG P w K mg base CX0 10 "_law_is_right" ["scope"] (sp0 K TT (ds_law_is_right cs))) (c_law_bad_full : HasG P w K mg base CX0 11 "_law_bad_full" ["state", "scope"] (sp0 K TT (ds_law_bad_full K cs (LamOkD P w K mg base TT 20) (HeldD P w K mg base TT 5)))) (c_good_arrows : HasF P w K mg base (L2.CX P w) 9 "good_arrows" s_good_arrows ["table"] (spO K TT (ds_good_arrows cs))) (c_law_big : Has P w K mg base CX0 3 "_law_big" ["state"] (sp0 K TT ds_law_big)) (c_law_made : Has P w K mg base CX0 8 "_law_made" ["scope"] (sp0 K TT (ds_law_made cs))) (DC : DefAt K mg "_law_caught" s_law_caught ["work"]) (MA : MakesAt base mg TT "law.<locals>.<lambda>" c9) : FnG P w K mg base CX0 25 f fd ["script"] (spLaw K TT) := by
  obtain ⟨_, _, c_law_begun_ok, c_law_begun_m, c_law_begun_k, c_law_begun_b⟩ := c_law_begun
  obtain ⟨_, _, c_law_drawn_ok, c_law_drawn_m, c_law_drawn_k, c_law_drawn_b⟩ := c_law_drawn
  obtain ⟨_, _, c_law_is_right_ok, c_law_is_right_m, c_law_is_right_k, c_law_is_right_b⟩ := c_law_is_right
  obtain ⟨_, _, c_law_bad_full_ok, c_law_bad_full_m, c_law_bad_full_k, c_law_bad_full_b⟩ := c_law_bad_full
  obtain ⟨_, _, c_good_arrows_ok, c_good_arrows_m, c_good_arrows_k, c_good_arrows_b, c_good_arrows_F⟩ := c_good_arrows
  obtain ⟨_, _, c_law_big_ok, c_law_big_m, c_law_big_k, c_law_big_b⟩ := c_law_big
  obtain ⟨_, _, c_law_made_ok, c_law_made_m, c_law_made_k, c_law_made_b⟩ := c_law_made
  obtain ⟨oc, od, kV, doc, pm, an, ct, osl, rfl, lk, hcd⟩ := F.ex
  refine ⟨fun vs H Q E h => by obtain ⟨a, ns, rfl, _⟩ := h; rfl, fun A hg hr0 outer s H args us vs Q E h r b e => LamX.run_ofS lk hcd sc_law hr0 e b r (by obtain ⟨a, ns, rfl, _⟩ := h; rfl) fun hr => ?_⟩
  obtain ⟨a, ns, rfl, hS, hl, tabs, q⟩ := h
  refine ⟨_, PSs.nox (X := cxOf CX0 P w K mg base ["script", "state", "turn", "scope", "caught", "large", "odd", "check"] "law" (defScope s_law) f (.ref c9) A outer s H E) ((pss_cons (ps_set (i := 1) sc_law.nd rfl (by first | exact Or.inl rfl | exact Or.inr rfl) (pe_call c_law_begun_ok (hr.mono (by decide)) rfl c_law_begun_m c_law_begun_k c_law_begun_b .nil pass0 (pa_cons (pv 0) pa_nil)))
      (pss_cons (ps_for PassesOwn.never rfl (pi_range1 (by rfl) T.n_range (pa_cons (pe_op op_addU pe_int (pe_callB (call_rMin2 rfl) (by rfl) T.n_min (by decide +kernel) (pa_cons (pe_callB call_lenU (by rfl) T.n_len (by decide +kernel) (pa_cons (pv 0) pa_nil)) (pa_cons pe_int pa_nil)))) pa_nil)) (pg_name (i := 2) sc_law.nd rfl (by first | exact Or.inl rfl | exact Or.inr rfl)) (pss_cons (ps_set (i := 3) sc_law.nd rfl (by first | exact Or.inl rfl | exact Or.inr rfl) (pe_call c_law_drawn_ok (hr.mono (by decide)) rfl c_law_drawn_m c_law_drawn_k c_law_drawn_b .nil pass0 (pa_cons (pv 1) pa_nil)))
      (pss_cons (ps_if (pt_not (pt_val (pe_callG c_law_is_right_ok hg (hr.mono (by decide)) rfl c_law_is_right_m c_law_is_right_k c_law_is_right_b .nil pass0 (pa_cons (pv 3) pa_nil)))) (pss_one (ps_ret pe_bl)) pss_nil)
      (pss_cons (ps_asg (pe_callG c_law_bad_full_ok hg (hr.mono (by decide)) rfl c_law_bad_full_m c_law_bad_full_k c_law_bad_full_b .nil pass0 (pa_cons (pv 1) (pa_cons (pv 3) pa_nil))) (pg_tup rfl (pgs_cons (pg_name (i := 6) sc_law.nd rfl (by first | exact Or.inl rfl | exact Or.inr rfl)) (pgs_cons (pg_name (i := 7) sc_law.nd rfl (by first | exact Or.inl rfl | exact Or.inr rfl)) pgs_nil))))
      (pss_cons (ps_set (i := 4) sc_law.nd rfl (by first | exact Or.inl rfl | exact Or.inr rfl) (lam_call (k := 22) DC sc_law_caught (fun g cdg => caught_gives rfl T.g_FoundError rfl rfl rfl) MA rfl (hr.mono (by decide)) (LamX.lamS_by (sc := defScope s_law) (by decide +kernel)) rfl rfl (fun _ _ _ _ _ => rfl) (fun A9 outer9 s9 H9 E9 f9 c9 hr => (pe_call c_good_arrows_ok (hr.mono (by decide)) rfl c_good_arrows_m c_good_arrows_k c_good_arrows_b .nil (passes_call (takes_of rfl rfl rfl rfl) (fun _ _ _ _ h => h)) (pa_cons (pv 6) pa_nil)))))
      (pss_cons (ps_if (PW.pt (pw_or (pt_cmpR op_isN (pv 4) pe_non (nomark _)) (pw_or1 (pt_not (pt_val (pe_callEU (k := 5) (k2 := 20) (pv 7) (hr.mono (by decide)) (hr.mono (by decide)) (pa_cons (pv 4) pa_nil))))))) (pss_one (ps_ret pe_bl)) pss_nil)
      (pss_cons (ps_set (i := 5) sc_law.nd rfl (by first | exact Or.inl rfl | exact Or.inr rfl) (pe_call c_law_big_ok (hr.mono (by decide)) rfl c_law_big_m c_law_big_k c_law_big_b .nil pass0 (pa_cons (pv 1) pa_nil)))
      (pss_cons (ps_set (i := 4) sc_law.nd rfl (by first | exact Or.inl rfl | exact Or.inr rfl) (lam_call (k := 22) DC sc_law_caught (fun g cdg => caught_gives rfl T.g_FoundError rfl rfl rfl) MA rfl (hr.mono (by decide)) (LamX.lamS_by (sc := defScope s_law) (by decide +kernel)) rfl rfl (fun _ _ _ _ _ => rfl) (fun A9 outer9 s9 H9 E9 f9 c9 hr => (pe_call c_good_arrows_ok (hr.mono (by decide)) rfl c_good_arrows_m c_good_arrows_k c_good_arrows_b .nil (passes_call (takes_of rfl rfl rfl rfl) (fun _ _ _ _ h => h)) (pa_cons (pe_call c_law_made_ok (hr.mono (by decide)) rfl c_law_made_m c_law_made_k c_law_made_b .nil pass0 (pa_cons (pv 5) pa_nil)) pa_nil)))))
      (pss_cons (ps_if (PW.pt (pw_or (pt_not (pt_val (pe_callB call_isD (by rfl) T.n_isinstance (by decide +kernel) (pa_cons (pv 4) (pa_cons (pe_glob (v := .ref cs.TooMany) rfl T.g_TooMany rfl) pa_nil))))) (pw_or1 (pt_cmpR (op_neU hr.units) (pe_callB (call_repr hg hr.units) (by rfl) T.n_repr (by decide +kernel) (pa_cons (pe_xat (pv 4)) pa_nil)) pe_str (nomark _))))) (pss_one (ps_ret pe_bl)) pss_nil)
      (pss_cons (ps_asg (pe_callG c_law_bad_full_ok hg (hr.mono (by decide)) rfl c_law_bad_full_m c_law_bad_full_k c_law_bad_full_b .nil pass0 (pa_cons (pv 1) (pa_cons (pv 5) pa_nil))) (pg_tup rfl (pgs_cons (pg_name (i := 6) sc_law.nd rfl (by first | exact Or.inl rfl | exact Or.inr rfl)) (pgs_cons (pg_name (i := 7) sc_law.nd rfl (by first | exact Or.inl rfl | exact Or.inr rfl)) pgs_nil))))
      (pss_cons (ps_set (i := 4) sc_law.nd rfl (by first | exact Or.inl rfl | exact Or.inr rfl) (lam_call (k := 22) DC sc_law_caught (fun g cdg => caught_gives rfl T.g_FoundError rfl rfl rfl) MA rfl (hr.mono (by decide)) (LamX.lamS_by (sc := defScope s_law) (by decide +kernel)) rfl rfl (fun _ _ _ _ _ => rfl) (fun A9 outer9 s9 H9 E9 f9 c9 hr => (pe_call c_good_arrows_ok (hr.mono (by decide)) rfl c_good_arrows_m c_good_arrows_k c_good_arrows_b .nil (passes_call (takes_of rfl rfl rfl rfl) (fun _ _ _ _ h => h)) (pa_cons (pv 6) pa_nil)))))
      (pss_one (ps_if (PW.pt (pw_or (pt_cmpR op_isN (pv 4) pe_non (nomark _)) (pw_or1 (pt_not (pt_val (pe_callEU (k := 5) (k2 := 20) (pv 7) (hr.mono (by decide)) (hr.mono (by decide)) (pa_cons (pv 4) pa_nil))))))) (pss_one (ps_ret pe_bl)) pss_nil)))))))))))))
      (pss_one (ps_ret pe_bl))))), law_body (by decide) hS hl tabs q fun S => ⟨_, (rds_seq (rds_for (rdi_range1 (rda_cons (rd_op o2_add rd_int (rd_cb cal_min2 (rda_cons (rd_cb cal_len (rda_cons (rd_var (i := 0)) rda_nil)) (rda_cons rd_int rda_nil)))) rda_nil)) (rdg_name (vs := [2]) (by decide)) (rds_seq (rds_set (rd_call0 (E := E0) (rda_st (i := 1) rda_nil)))
      (rds_seq (rds_if (rdt_not (rdt_B (rd_call0 (E := E0) (rda_cons (rd_var (i := 3)) rda_nil)))) (rds_ret rd_bl) rds_next)
      (rds_seq (rds_asgG (rd_call0 (E := E0) (rda_st (i := 1) (rda_cons (rd_var (i := 3)) rda_nil))) (rdg_two (vs := [6, 7]) (by decide) (by decide)))
      (rds_seq (rds_set (rd_lam fun _ => (rd_ofN (rdn_callO (rda_cons (rd_var (i := 6)) rda_nil)))))
      (rds_seq (rds_if (rdt_or (rdt_test (rd_op o2_isN (rd_var (i := 4)) rd_non)) (rdt_not (rdt_B (rd_callEU (rd_var (i := 7)) (rda_cons (rd_var (i := 4)) rda_nil))))) (rds_ret rd_bl) rds_next)
      (rds_seq (rds_set (rd_call0 (E := E0) (rda_st (i := 1) rda_nil)))
      (rds_seq (rds_set (rd_lam fun _ => (rd_ofN (rdn_callO (rda_cons (rd_call0 (E := E0) (rda_cons (rd_var (i := 5)) rda_nil)) rda_nil)))))
      (rds_seq (rds_if (rdt_or (rdt_not (rdt_B (rd_is (.own _) (rd_var (i := 4))))) (rdt_test (rd_op o2_ne (rd_cb cal_repr (rda_cons (rd_xat (rd_var (i := 4))) rda_nil)) rd_str))) (rds_ret rd_bl) rds_next)
      (rds_seq (rds_asgG (rd_call0 (E := E0) (rda_st (i := 1) (rda_cons (rd_var (i := 5)) rda_nil))) (rdg_two (vs := [6, 7]) (by decide) (by decide)))
      (rds_seq (rds_set (rd_lam fun _ => (rd_ofN (rdn_callO (rda_cons (rd_var (i := 6)) rda_nil)))))
      (rds_if (rdt_or (rdt_test (rd_op o2_isN (rd_var (i := 4)) rd_non)) (rdt_not (rdt_B (rd_callEU (rd_var (i := 7)) (rda_cons (rd_var (i := 4)) rda_nil))))) (rds_ret rd_bl) rds_next))))))))))))
      (rds_ret rd_bl)), ?_⟩⟩
  walk_at "dl"
  have cas : ∀ {ks : List Int} {d : D} {Fv : FV} {n : Nat}, nx d = true → (NotIns d ∧ ChkIs K (LamOkD P w K mg base TT 20) Fv cs.BadTable ∨ ∃ rs : List (List D), NoneT ks rs ∧ d = tabD cs.Table (ks.map D.int) (rs.map D.tup) ∧ ChkIs K (LamOkD P w K mg base TT 20) Fv cs.Unread) →
      ∃ C, ErrC K cs.FoundError C ∧ PySem.W.kitOne K (.ref C) (.ref C) = some true ∧ ChkIs K (LamOkD P w K mg base TT 20) Fv C ∧ ∀ P XP, XP C [] [] n → ds_good_arrows cs [.d d] n P XP := fun {ks d Fv n} xd hd => by
    rcases hd with ⟨ni, hF⟩ | ⟨rs, nt, rfl, hF⟩
    · exact ⟨_, T.r_BadTable, T.i_BadTable, hF, fun P XP h => ⟨d, rfl, .inl ⟨xd, ni, h⟩⟩⟩
    · exact ⟨_, T.r_Unread, T.i_Unread, hF, fun P XP h => ⟨_, rfl, .inr (.inl ⟨ks, rs, nt, rfl, h⟩)⟩⟩
  obtain ⟨k, hk, hk2⟩ : ∃ k : Nat, ((1 : Int) + if 2 < ((List.map D.int ns).length : Int) then 2 else ((List.map D.int ns).length : Int)) = (k : Int) ∧ k ≤ 3 := by
    refine ⟨1 + min ns.length 2, ?_, by omega⟩
    rw [List.length_map]
    split <;> omega
  rw [hk]
  refine ⟨by omega, by omega, fun i ρ n => n ≤ 20000 * i ∧ ∃ (u2 u3 u4 u5 u6 u7 : SV), ρ = [.d (.lst (ns.map D.int)), .st, u2, u3, u4, u5, u6, u7], ⟨by omega, _, _, _, _, _, _, rfl⟩, ?_, ?_⟩
  · rintro i x ρ n hx ⟨hn, u2, u3, u4, u5, u6, u7, rfl⟩
    obtain ⟨hi, rfl⟩ := range_get hx
    clear hx hk
    refine ⟨rfl, rfl, lim (by omega), fun ks rss n1 t sm hn1 => ?_⟩
    refine ⟨ks, rss, rfl, t, sm, ?_⟩
    refine ⟨rfl, ?_⟩
    refine ⟨ks, rss, rfl, t, lim (by omega), fun d Fv n2 hn2 xd hd => ?_⟩
    walk_at "dl"
    obtain ⟨C, c1, c2, ⟨G, ok, g⟩, c3⟩ := cas xd hd (n := n2)
    refine c3 _ _ ⟨c1, G, ok, _, rfl, g _ _ _ _ ⟨trivial, true, c2, ?_⟩⟩
    refine ⟨rfl, lim (by omega), fun ks rss n3 t bg hn3 => ?_⟩
    have rn : nxs (rss.map tupI) = true := nxs_of fun d hd => by
      obtain ⟨r, _, rfl⟩ := List.mem_map.mp hd
      exact nxs_ints
    refine ⟨ks.map D.int, rss.map tupI, rfl, nxs_ints, rn, kinds_ok t.kl t.kb, full_rows t, ?_⟩
    refine ⟨_, rfl, .inr (.inr ⟨ks, rss, rfl, t, .inl ⟨bg, ?_⟩⟩)⟩
    refine ⟨T.r_TooMany, trivial, true, T.i_TooMany, ?_⟩
    refine ⟨T.fa_TooMany, _, rfl, .int 5000, rfl, ⟨rfl, rfl, by decide, by decide⟩, ?_⟩
    have z : (PyData.int 5000).shown = Str.ofString "5000" := by decide
    rw [z]
    simp only [eqP_str, decide_true]
    refine ⟨ks, rss, rfl, t, lim (by omega), fun d Fv n4 hn4 xd hd => ?_⟩
    walk_at "dl"
    obtain ⟨C, c1, c2, ⟨G, ok, g⟩, c3⟩ := cas xd hd (n := n4)
    refine c3 _ _ ⟨c1, G, ok, _, rfl, g _ _ _ _ ⟨trivial, true, c2, ?_⟩⟩
    exact ⟨by omega, _, _, _, _, _, _, rfl⟩
  · rintro ρ n ⟨hn, u2, u3, u4, u5, u6, u7, rfl⟩
    trivial

end
end Lw
namespace Lw
open L2 PySem DL
open He (ga ma fAd cT)
theorem facts {w : PySem.World} {h : Heap} {K : PySem.W.Frag} {mg : Str → Option Value} {fa : Addr} (X : K.In h) (G : h.Ns mainGlobals mg) (hfa : mg ("law" : Str) = some (.ref fa)) (c : He.SaysX fcs dfs [] tfd exs w h K) : LawG PySem.Challenge.rw_oncefound_k38_all_good_arrows w K CX0 27 63 "script" mg fa h := by
  have d := c.t.d
  obtain ⟨fd_is_number, F_is_number⟩ := d.def_ 0 (d := ⟨("is_number", none), "is_number", "is_number", defArgs s_is_number, defBody s_is_number, defScope s_is_number, [], []⟩) rfl
  have g_is_number : mg "is_number" = some (.ref (ga K "is_number")) := He.glo_ok X G (d.fact 30 (f := .glo "is_number") rfl)
  have L_is_number : L2.Fun K "is_number" "is_number" s_is_number (fAd K ("is_number", none)) fd_is_number := He5.fun_of F_is_number
  have B_is_number : Binds K fd_is_number ["thing"] [] := L_is_number.binds fun _ _ _ _ _ _ us hl => match us, hl with | [_], _ => rfl
  obtain ⟨fd_is_between, F_is_between⟩ := d.def_ 1 (d := ⟨("is_between", none), "is_between", "is_between", defArgs s_is_between, defBody s_is_between, defScope s_is_between, [], []⟩) rfl
  have g_is_between : mg "is_between" = some (.ref (ga K "is_between")) := He.glo_ok X G (d.fact 31 (f := .glo "is_between") rfl)
  have L_is_between : L2.Fun K "is_between" "is_between" s_is_between (fAd K ("is_between", none)) fd_is_between := He5.fun_of F_is_between
  have B_is_between : Binds K fd_is_between ["thing", "low", "high"] [] := L_is_between.binds fun _ _ _ _ _ _ us hl => match us, hl with | [_, _, _], _ => rfl
  obtain ⟨fd_is_kind, F_is_kind⟩ := d.def_ 2 (d := ⟨("is_kind", none), "is_kind", "is_kind", defArgs s_is_kind, defBody s_is_kind, defScope s_is_kind, [], []⟩) rfl
  have g_is_kind : mg "is_kind" = some (.ref (ga K "is_kind")) := He.glo_ok X G (d.fact 32 (f := .glo "is_kind") rfl)
  have L_is_kind : L2.Fun K "is_kind" "is_kind" s_is_kind (fAd K ("is_kind", none)) fd_is_kind := He5.fun_of F_is_kind
  have B_is_kind : Binds K fd_is_kind ["thing"] [] := L_is_kind.binds fun _ _ _ _ _ _ us hl => match us, hl with | [_], _ => rfl
  obtain ⟨fd_are_kinds, F_are_kinds⟩ := d.def_ 3 (d := ⟨("_are_kinds", none), "_are_kinds", "_are_kinds", defArgs s_are_kinds, defBody s_are_kinds, defScope s_are_kinds, [], []⟩) rfl
  have g_are_kinds : mg "_are_kinds" = some (.ref (ga K "_are_kinds")) := He.glo_ok X G (d.fact 33 (f := .glo "_are_kinds") rfl)
  have L_are_kinds : L2.Fun K "_are_kinds" "_are_kinds" s_are_kinds (fAd K ("_are_kinds", none)) fd_are_kinds := He5.fun_of F_are_kinds
  have B_are_kinds : Binds K fd_are_kinds ["thing"] [] := L_are_kinds.binds fun _ _ _ _ _ _ us hl => match us, hl with | [_], _ => rfl
  obtain ⟨fd_is_cell, F_is_cell⟩ := d.def_ 4 (d := ⟨("is_cell", none), "is_cell", "is_cell", defArgs s_is_cell, defBody s_is_cell, defScope s_is_cell, [], []⟩) rfl
  have g_is_cell : mg "is_cell" = some (.ref (ga K "is_cell")) := He.glo_ok X G (d.fact 34 (f := .glo "is_cell") rfl)
  have L_is_cell : L2.Fun K "is_cell" "is_cell" s_is_cell (fAd K ("is_cell", none)) fd_is_cell := He5.fun_of F_is_cell
  have B_is_cell : Binds K fd_is_cell ["kind", "thing"] [] := L_is_cell.binds fun _ _ _ _ _ _ us hl => match us, hl with | [_, _], _ => rfl
  obtain ⟨fd_is_row_for, F_is_row_for⟩ := d.def_ 5 (d := ⟨("_is_row_for", none), "_is_row_for", "_is_row_for", defArgs s_is_row_for, defBody s_is_row_for, defScope s_is_row_for, [], []⟩) rfl
  have g_is_row_for : mg "_is_row_for" = some (.ref (ga K "_is_row_for")) := He.glo_ok X G (d.fact 35 (f := .glo "_is_row_for") rfl)
  have L_is_row_for : L2.Fun K "_is_row_for" "_is_row_for" s_is_row_for (fAd K ("_is_row_for", none)) fd_is_row_for := He5.fun_of F_is_row_for
  have B_is_row_for : Binds K fd_is_row_for ["kinds", "thing"] [] := L_is_row_for.binds fun _ _ _ _ _ _ us hl => match us, hl with | [_, _], _ => rfl
  obtain ⟨fd_first_unread, F_first_unread⟩ := d.def_ 6 (d := ⟨("first_unread", none), "first_unread", "first_unread", defArgs s_first_unread, defBody s_first_unread, defScope s_first_unread, [], []⟩) rfl
  have g_first_unread : mg "first_unread" = some (.ref (ga K "first_unread")) := He.glo_ok X G (d.fact 36 (f := .glo "first_unread") rfl)
  have L_first_unread : L2.Fun K "first_unread" "first_unread" s_first_unread (fAd K ("first_unread", none)) fd_first_unread := He5.fun_of F_first_unread
  have B_first_unread : Binds K fd_first_unread ["rows"] [] := L_first_unread.binds fun _ _ _ _ _ _ us hl => match us, hl with | [_], _ => rfl
  obtain ⟨fd_are_rows, F_are_rows⟩ := d.def_ 7 (d := ⟨("_are_rows", none), "_are_rows", "_are_rows", defArgs s_are_rows, defBody s_are_rows, defScope s_are_rows, [], []⟩) rfl
  have g_are_rows : mg "_are_rows" = some (.ref (ga K "_are_rows")) := He.glo_ok X G (d.fact 37 (f := .glo "_are_rows") rfl)
  have L_are_rows : L2.Fun K "_are_rows" "_are_rows" s_are_rows (fAd K ("_are_rows", none)) fd_are_rows := He5.fun_of F_are_rows
  have B_are_rows : Binds K fd_are_rows ["kinds", "thing"] [] := L_are_rows.binds fun _ _ _ _ _ _ us hl => match us, hl with | [_, _], _ => rfl
  obtain ⟨fd_law_put, F_law_put⟩ := d.def_ 8 (d := ⟨("_law_put", none), "_law_put", "_law_put", defArgs s_law_put, defBody s_law_put, defScope s_law_put, [], []⟩) rfl
  have g_law_put : mg "_law_put" = some (.ref (ga K "_law_put")) := He.glo_ok X G (d.fact 38 (f := .glo "_law_put") rfl)
  have L_law_put : L2.Fun K "_law_put" "_law_put" s_law_put (fAd K ("_law_put", none)) fd_law_put := He5.fun_of F_law_put
  have B_law_put : Binds K fd_law_put ["row", "spot", "item"] [] := L_law_put.binds fun _ _ _ _ _ _ us hl => match us, hl with | [_, _, _], _ => rfl
  obtain ⟨fd_law_draw, F_law_draw⟩ := d.def_ 9 (d := ⟨("_law_draw", none), "_law_draw", "_law_draw", defArgs s_law_draw, defBody s_law_draw, defScope s_law_draw, [], []⟩) rfl
  have g_law_draw : mg "_law_draw" = some (.ref (ga K "_law_draw")) := He.glo_ok X G (d.fact 39 (f := .glo "_law_draw") rfl)
  have L_law_draw : L2.Fun K "_law_draw" "_law_draw" s_law_draw (fAd K ("_law_draw", none)) fd_law_draw := He5.fun_of F_law_draw
  have B_law_draw : Binds K fd_law_draw ["state", "size_here"] [] := L_law_draw.binds fun _ _ _ _ _ _ us hl => match us, hl with | [_, _], _ => rfl
  obtain ⟨fd_law_pick, F_law_pick⟩ := d.def_ 10 (d := ⟨("_law_pick", none), "_law_pick", "_law_pick", defArgs s_law_pick, defBody s_law_pick, defScope s_law_pick, [], []⟩) rfl
  have g_law_pick : mg "_law_pick" = some (.ref (ga K "_law_pick")) := He.glo_ok X G (d.fact 40 (f := .glo "_law_pick") rfl)
  have L_law_pick : L2.Fun K "_law_pick" "_law_pick" s_law_pick (fAd K ("_law_pick", none)) fd_law_pick := He5.fun_of F_law_pick
  have B_law_pick : Binds K fd_law_pick ["state", "several"] [] := L_law_pick.binds fun _ _ _ _ _ _ us hl => match us, hl with | [_, _], _ => rfl
  obtain ⟨fd_law_bad_table, F_law_bad_table⟩ := d.def_ 11 (d := ⟨("_law_bad_table", none), "_law_bad_table", "_law_bad_table", defArgs s_law_bad_table, defBody s_law_bad_table, defScope s_law_bad_table, [], []⟩) rfl
  have g_law_bad_table : mg "_law_bad_table" = some (.ref (ga K "_law_bad_table")) := He.glo_ok X G (d.fact 41 (f := .glo "_law_bad_table") rfl)
  have L_law_bad_table : L2.Fun K "_law_bad_table" "_law_bad_table" s_law_bad_table (fAd K ("_law_bad_table", none)) fd_law_bad_table := He5.fun_of F_law_bad_table
  have B_law_bad_table : Binds K fd_law_bad_table ["state"] [] := L_law_bad_table.binds fun _ _ _ _ _ _ us hl => match us, hl with | [_], _ => rfl
  obtain ⟨fd_Table_init, F_Table_init⟩ := d.def_ 12 (d := ⟨("Table", some "__init__"), "__init__", "Table.__init__", defArgs s_Table_init, defBody s_Table_init, defScope s_Table_init, [], []⟩) rfl
  have L_Table_init : L2.Fun K "__init__" "Table.__init__" s_Table_init (fAd K ("Table", some "__init__")) fd_Table_init := He5.fun_of F_Table_init
  have B_Table_init : Binds K fd_Table_init ["self", "kinds", "rows"] [] := L_Table_init.binds fun _ _ _ _ _ _ us hl => match us, hl with | [_, _, _], _ => rfl
  obtain ⟨fd_check_table, F_check_table⟩ := d.def_ 13 (d := ⟨("check_table", none), "check_table", "check_table", defArgs s_check_table, defBody s_check_table, defScope s_check_table, [], []⟩) rfl
  have g_check_table : mg "check_table" = some (.ref (ga K "check_table")) := He.glo_ok X G (d.fact 42 (f := .glo "check_table") rfl)
  have L_check_table : L2.Fun K "check_table" "check_table" s_check_table (fAd K ("check_table", none)) fd_check_table := He5.fun_of F_check_table
  have B_check_table : Binds K fd_check_table ["table"] [] := L_check_table.binds fun _ _ _ _ _ _ us hl => match us, hl with | [_], _ => rfl
  obtain ⟨fd_law_made, F_law_made⟩ := d.def_ 14 (d := ⟨("_law_made", none), "_law_made", "_law_made", defArgs s_law_made, defBody s_law_made, defScope s_law_made, [], []⟩) rfl
  have g_law_made : mg "_law_made" = some (.ref (ga K "_law_made")) := He.glo_ok X G (d.fact 43 (f := .glo "_law_made") rfl)
  have L_law_made : L2.Fun K "_law_made" "_law_made" s_law_made (fAd K ("_law_made", none)) fd_law_made := He5.fun_of F_law_made
  have B_law_made : Binds K fd_law_made ["scope"] [] := L_law_made.binds fun _ _ _ _ _ _ us hl => match us, hl with | [_], _ => rfl
  obtain ⟨fd_law_begun, F_law_begun⟩ := d.def_ 15 (d := ⟨("_law_begun", none), "_law_begun", "_law_begun", defArgs s_law_begun, defBody s_law_begun, defScope s_law_begun, [], []⟩) rfl
  have g_law_begun : mg "_law_begun" = some (.ref (ga K "_law_begun")) := He.glo_ok X G (d.fact 44 (f := .glo "_law_begun") rfl)
  have L_law_begun : L2.Fun K "_law_begun" "_law_begun" s_law_begun (fAd K ("_law_begun", none)) fd_law_begun := He5.fun_of F_law_begun
  have B_law_begun : Binds K fd_law_begun ["script"] [] := L_law_begun.binds fun _ _ _ _ _ _ us hl => match us, hl with | [_], _ => rfl
  obtain ⟨fd_is_rising, F_is_rising⟩ := d.def_ 16 (d := ⟨("is_rising", none), "is_rising", "is_rising", defArgs s_is_rising, defBody s_is_rising, defScope s_is_rising, [], []⟩) rfl
  have g_is_rising : mg "is_rising" = some (.ref (ga K "is_rising")) := He.glo_ok X G (d.fact 45 (f := .glo "is_rising") rfl)
  have L_is_rising : L2.Fun K "is_rising" "is_rising" s_is_rising (fAd K ("is_rising", none)) fd_is_rising := He5.fun_of F_is_rising
  have B_is_rising : Binds K fd_is_rising ["things"] [] := L_is_rising.binds fun _ _ _ _ _ _ us hl => match us, hl with | [_], _ => rfl
  obtain ⟨fd_is_lot, F_is_lot⟩ := d.def_ 17 (d := ⟨("is_lot", none), "is_lot", "is_lot", defArgs s_is_lot, defBody s_is_lot, defScope s_is_lot, [], []⟩) rfl
  have g_is_lot : mg "is_lot" = some (.ref (ga K "is_lot")) := He.glo_ok X G (d.fact 46 (f := .glo "is_lot") rfl)
  have L_is_lot : L2.Fun K "is_lot" "is_lot" s_is_lot (fAd K ("is_lot", none)) fd_is_lot := He5.fun_of F_is_lot
  have B_is_lot : Binds K fd_is_lot ["thing", "low", "high"] [] := L_is_lot.binds fun _ _ _ _ _ _ us hl => match us, hl with | [_, _, _], _ => rfl
  obtain ⟨fd_law_mixed, F_law_mixed⟩ := d.def_ 18 (d := ⟨("_law_mixed", none), "_law_mixed", "_law_mixed", defArgs s_law_mixed, defBody s_law_mixed, defScope s_law_mixed, [], []⟩) rfl
  have g_law_mixed : mg "_law_mixed" = some (.ref (ga K "_law_mixed")) := He.glo_ok X G (d.fact 47 (f := .glo "_law_mixed") rfl)
  have L_law_mixed : L2.Fun K "_law_mixed" "_law_mixed" s_law_mixed (fAd K ("_law_mixed", none)) fd_law_mixed := He5.fun_of F_law_mixed
  have B_law_mixed : Binds K fd_law_mixed ["state", "several"] [] := L_law_mixed.binds fun _ _ _ _ _ _ us hl => match us, hl with | [_, _], _ => rfl
  obtain ⟨fd_check_matter, F_check_matter⟩ := d.def_ 19 (d := ⟨("check_matter", none), "check_matter", "check_matter", defArgs s_check_matter, defBody s_check_matter, defScope s_check_matter, [], []⟩) rfl
  have g_check_matter : mg "check_matter" = some (.ref (ga K "check_matter")) := He.glo_ok X G (d.fact 48 (f := .glo "check_matter") rfl)
  have L_check_matter : L2.Fun K "check_matter" "check_matter" s_check_matter (fAd K ("check_matter", none)) fd_check_matter := He5.fun_of F_check_matter
  have B_check_matter : Binds K fd_check_matter ["table", "matter"] [] := L_check_matter.binds fun _ _ _ _ _ _ us hl => match us, hl with | [_, _], _ => rfl
  obtain ⟨fd_is_full, F_is_full⟩ := d.def_ 20 (d := ⟨("is_full", none), "is_full", "is_full", defArgs s_is_full, defBody s_is_full, defScope s_is_full, [], []⟩) rfl
  have g_is_full : mg "is_full" = some (.ref (ga K "is_full")) := He.glo_ok X G (d.fact 49 (f := .glo "is_full") rfl)
  have L_is_full : L2.Fun K "is_full" "is_full" s_is_full (fAd K ("is_full", none)) fd_is_full := He5.fun_of F_is_full
  have B_is_full : Binds K fd_is_full ["table"] [] := L_is_full.binds fun _ _ _ _ _ _ us hl => match us, hl with | [_], _ => rfl
  obtain ⟨fd_check_full, F_check_full⟩ := d.def_ 21 (d := ⟨("check_full", none), "check_full", "check_full", defArgs s_check_full, defBody s_check_full, defScope s_check_full, [], []⟩) rfl
  have g_check_full : mg "check_full" = some (.ref (ga K "check_full")) := He.glo_ok X G (d.fact 50 (f := .glo "check_full") rfl)
  have L_check_full : L2.Fun K "check_full" "check_full" s_check_full (fAd K ("check_full", none)) fd_check_full := He5.fun_of F_check_full
  have B_check_full : Binds K fd_check_full ["table"] [] := L_check_full.binds fun _ _ _ _ _ _ us hl => match us, hl with | [_], _ => rfl
  obtain ⟨fd_used, F_used⟩ := d.def_ 22 (d := ⟨("used", none), "used", "used", defArgs s_used, defBody s_used, defScope s_used, [], []⟩) rfl
  have g_used : mg "used" = some (.ref (ga K "used")) := He.glo_ok X G (d.fact 51 (f := .glo "used") rfl)
  have L_used : L2.Fun K "used" "used" s_used (fAd K ("used", none)) fd_used := He5.fun_of F_used
  have B_used : Binds K fd_used ["table", "matter"] [] := L_used.binds fun _ _ _ _ _ _ us hl => match us, hl with | [_, _], _ => rfl
  obtain ⟨fd_do_cross, F_do_cross⟩ := d.def_ 23 (d := ⟨("do_cross", none), "do_cross", "do_cross", defArgs s_do_cross, defBody s_do_cross, defScope s_do_cross, [], []⟩) rfl
  have g_do_cross : mg "do_cross" = some (.ref (ga K "do_cross")) := He.glo_ok X G (d.fact 52 (f := .glo "do_cross") rfl)
  have L_do_cross : L2.Fun K "do_cross" "do_cross" s_do_cross (fAd K ("do_cross", none)) fd_do_cross := He5.fun_of F_do_cross
  have B_do_cross : Binds K fd_do_cross ["one", "other"] [] := L_do_cross.binds fun _ _ _ _ _ _ us hl => match us, hl with | [_, _], _ => rfl
  obtain ⟨fd_law_pairs, F_law_pairs⟩ := d.def_ 24 (d := ⟨("_law_pairs", none), "_law_pairs", "_law_pairs", defArgs s_law_pairs, defBody s_law_pairs, defScope s_law_pairs, [], []⟩) rfl
  have g_law_pairs : mg "_law_pairs" = some (.ref (ga K "_law_pairs")) := He.glo_ok X G (d.fact 53 (f := .glo "_law_pairs") rfl)
  have L_law_pairs : L2.Fun K "_law_pairs" "_law_pairs" s_law_pairs (fAd K ("_law_pairs", none)) fd_law_pairs := He5.fun_of F_law_pairs
  have B_law_pairs : Binds K fd_law_pairs ["several"] [] := L_law_pairs.binds fun _ _ _ _ _ _ us hl => match us, hl with | [_], _ => rfl
  obtain ⟨fd_law_crosses, F_law_crosses⟩ := d.def_ 25 (d := ⟨("_law_crosses", none), "_law_crosses", "_law_crosses", defArgs s_law_crosses, defBody s_law_crosses, defScope s_law_crosses, [], []⟩) rfl
  have g_law_crosses : mg "_law_crosses" = some (.ref (ga K "_law_crosses")) := He.glo_ok X G (d.fact 54 (f := .glo "_law_crosses") rfl)
  have L_law_crosses : L2.Fun K "_law_crosses" "_law_crosses" s_law_crosses (fAd K ("_law_crosses", none)) fd_law_crosses := He5.fun_of F_law_crosses
  have B_law_crosses : Binds K fd_law_crosses ["one", "other"] [] := L_law_crosses.binds fun _ _ _ _ _ _ us hl => match us, hl with | [_, _], _ => rfl
  obtain ⟨fd_ties_at, F_ties_at⟩ := d.def_ 26 (d := ⟨("_ties_at", none), "_ties_at", "_ties_at", defArgs s_ties_at, defBody s_ties_at, defScope s_ties_at, [], []⟩) rfl
  have g_ties_at : mg "_ties_at" = some (.ref (ga K "_ties_at")) := He.glo_ok X G (d.fact 55 (f := .glo "_ties_at") rfl)
  have L_ties_at : L2.Fun K "_ties_at" "_ties_at" s_ties_at (fAd K ("_ties_at", none)) fd_ties_at := He5.fun_of F_ties_at
  have B_ties_at : Binds K fd_ties_at ["ties", "place"] [] := L_ties_at.binds fun _ _ _ _ _ _ us hl => match us, hl with | [_, _], _ => rfl
  obtain ⟨fd_steps_to, F_steps_to⟩ := d.def_ 27 (d := ⟨("steps_to", none), "steps_to", "steps_to", defArgs s_steps_to, defBody s_steps_to, defScope s_steps_to, [], []⟩) rfl
  have g_steps_to : mg "steps_to" = some (.ref (ga K "steps_to")) := He.glo_ok X G (d.fact 56 (f := .glo "steps_to") rfl)
  have L_steps_to : L2.Fun K "steps_to" "steps_to" s_steps_to (fAd K ("steps_to", none)) fd_steps_to := He5.fun_of F_steps_to
  have B_steps_to : Binds K fd_steps_to ["ties", "goal"] [] := L_steps_to.binds fun _ _ _ _ _ _ us hl => match us, hl with | [_, _], _ => rfl
  obtain ⟨fd_law_founded, F_law_founded⟩ := d.def_ 28 (d := ⟨("_law_founded", none), "_law_founded", "_law_founded", defArgs s_law_founded, defBody s_law_founded, defScope s_law_founded, [], []⟩) rfl
  have g_law_founded : mg "_law_founded" = some (.ref (ga K "_law_founded")) := He.glo_ok X G (d.fact 57 (f := .glo "_law_founded") rfl)
  have L_law_founded : L2.Fun K "_law_founded" "_law_founded" s_law_founded (fAd K ("_law_founded", none)) fd_law_founded := He5.fun_of F_law_founded
  have B_law_founded : Binds K fd_law_founded ["state", "many", "size_here"] [] := L_law_founded.binds fun _ _ _ _ _ _ us hl => match us, hl with | [_, _, _], _ => rfl
  obtain ⟨fd_law_true, F_law_true⟩ := d.def_ 29 (d := ⟨("_law_true", none), "_law_true", "_law_true", defArgs s_law_true, defBody s_law_true, defScope s_law_true, [], []⟩) rfl
  have g_law_true : mg "_law_true" = some (.ref (ga K "_law_true")) := He.glo_ok X G (d.fact 58 (f := .glo "_law_true") rfl)
  have L_law_true : L2.Fun K "_law_true" "_law_true" s_law_true (fAd K ("_law_true", none)) fd_law_true := He5.fun_of F_law_true
  have B_law_true : Binds K fd_law_true ["state", "many", "kinds_here"] [] := L_law_true.binds fun _ _ _ _ _ _ us hl => match us, hl with | [_, _, _], _ => rfl
  obtain ⟨fd_law_any, F_law_any⟩ := d.def_ 30 (d := ⟨("_law_any", none), "_law_any", "_law_any", defArgs s_law_any, defBody s_law_any, defScope s_law_any, [], []⟩) rfl
  have g_law_any : mg "_law_any" = some (.ref (ga K "_law_any")) := He.glo_ok X G (d.fact 59 (f := .glo "_law_any") rfl)
  have L_law_any : L2.Fun K "_law_any" "_law_any" s_law_any (fAd K ("_law_any", none)) fd_law_any := He5.fun_of F_law_any
  have B_law_any : Binds K fd_law_any ["state", "many", "kinds_here"] [] := L_law_any.binds fun _ _ _ _ _ _ us hl => match us, hl with | [_, _, _], _ => rfl
  obtain ⟨fd_law_ringed, F_law_ringed⟩ := d.def_ 31 (d := ⟨("_law_ringed", none), "_law_ringed", "_law_ringed", defArgs s_law_ringed, defBody s_law_ringed, defScope s_law_ringed, [], []⟩) rfl
  have g_law_ringed : mg "_law_ringed" = some (.ref (ga K "_law_ringed")) := He.glo_ok X G (d.fact 60 (f := .glo "_law_ringed") rfl)
  have L_law_ringed : L2.Fun K "_law_ringed" "_law_ringed" s_law_ringed (fAd K ("_law_ringed", none)) fd_law_ringed := He5.fun_of F_law_ringed
  have B_law_ringed : Binds K fd_law_ringed ["state", "scope"] [] := L_law_ringed.binds fun _ _ _ _ _ _ us hl => match us, hl with | [_, _], _ => rfl
  obtain ⟨fd_law_near, F_law_near⟩ := d.def_ 32 (d := ⟨("_law_near", none), "_law_near", "_law_near", defArgs s_law_near, defBody s_law_near, defScope s_law_near, [], []⟩) rfl
  have g_law_near : mg "_law_near" = some (.ref (ga K "_law_near")) := He.glo_ok X G (d.fact 61 (f := .glo "_law_near") rfl)
  have L_law_near : L2.Fun K "_law_near" "_law_near" s_law_near (fAd K ("_law_near", none)) fd_law_near := He5.fun_of F_law_near
  have B_law_near : Binds K fd_law_near ["state", "scope"] [] := L_law_near.binds fun _ _ _ _ _ _ us hl => match us, hl with | [_, _], _ => rfl
  obtain ⟨fd_law_wide, F_law_wide⟩ := d.def_ 33 (d := ⟨("_law_wide", none), "_law_wide", "_law_wide", defArgs s_law_wide, defBody s_law_wide, defScope s_law_wide, [], []⟩) rfl
  have g_law_wide : mg "_law_wide" = some (.ref (ga K "_law_wide")) := He.glo_ok X G (d.fact 62 (f := .glo "_law_wide") rfl)
  have L_law_wide : L2.Fun K "_law_wide" "_law_wide" s_law_wide (fAd K ("_law_wide", none)) fd_law_wide := He5.fun_of F_law_wide
  have B_law_wide : Binds K fd_law_wide ["state", "most", "several", "wide"] [] := L_law_wide.binds fun _ _ _ _ _ _ us hl => match us, hl with | [_, _, _, _], _ => rfl
  obtain ⟨fd_law_bad_full, F_law_bad_full⟩ := d.def_ 34 (d := ⟨("_law_bad_full", none), "_law_bad_full", "_law_bad_full", defArgs s_law_bad_full, defBody s_law_bad_full, defScope s_law_bad_full, [], []⟩) rfl
  have g_law_bad_full : mg "_law_bad_full" = some (.ref (ga K "_law_bad_full")) := He.glo_ok X G (d.fact 63 (f := .glo "_law_bad_full") rfl)
  have L_law_bad_full : L2.Fun K "_law_bad_full" "_law_bad_full" s_law_bad_full (fAd K ("_law_bad_full", none)) fd_law_bad_full := He5.fun_of F_law_bad_full
  have B_law_bad_full : Binds K fd_law_bad_full ["state", "scope"] [] := L_law_bad_full.binds fun _ _ _ _ _ _ us hl => match us, hl with | [_, _], _ => rfl
  obtain ⟨fd_do_join, F_do_join⟩ := d.def_ 35 (d := ⟨("_do_join", none), "_do_join", "_do_join", defArgs s_do_join, defBody s_do_join, defScope s_do_join, [], []⟩) rfl
  have g_do_join : mg "_do_join" = some (.ref (ga K "_do_join")) := He.glo_ok X G (d.fact 64 (f := .glo "_do_join") rfl)
  have L_do_join : L2.Fun K "_do_join" "_do_join" s_do_join (fAd K ("_do_join", none)) fd_do_join := He5.fun_of F_do_join
  have B_do_join : Binds K fd_do_join ["pairs", "customs"] [] := L_do_join.binds fun _ _ _ _ _ _ us hl => match us, hl with | [_, _], _ => rfl
  obtain ⟨fd_is_pair, F_is_pair⟩ := d.def_ 36 (d := ⟨("_is_pair", none), "_is_pair", "_is_pair", defArgs s_is_pair, defBody s_is_pair, defScope s_is_pair, [], []⟩) rfl
  have g_is_pair : mg "_is_pair" = some (.ref (ga K "_is_pair")) := He.glo_ok X G (d.fact 65 (f := .glo "_is_pair") rfl)
  have L_is_pair : L2.Fun K "_is_pair" "_is_pair" s_is_pair (fAd K ("_is_pair", none)) fd_is_pair := He5.fun_of F_is_pair
  have B_is_pair : Binds K fd_is_pair ["customs", "thing"] [] := L_is_pair.binds fun _ _ _ _ _ _ us hl => match us, hl with | [_, _], _ => rfl
  obtain ⟨fd_is_custom_tree, F_is_custom_tree⟩ := d.def_ 37 (d := ⟨("is_custom_tree", none), "is_custom_tree", "is_custom_tree", defArgs s_is_custom_tree, defBody s_is_custom_tree, defScope s_is_custom_tree, [], []⟩) rfl
  have g_is_custom_tree : mg "is_custom_tree" = some (.ref (ga K "is_custom_tree")) := He.glo_ok X G (d.fact 66 (f := .glo "is_custom_tree") rfl)
  have L_is_custom_tree : L2.Fun K "is_custom_tree" "is_custom_tree" s_is_custom_tree (fAd K ("is_custom_tree", none)) fd_is_custom_tree := He5.fun_of F_is_custom_tree
  have B_is_custom_tree : Binds K fd_is_custom_tree ["table", "matter", "thing"] [] := L_is_custom_tree.binds fun _ _ _ _ _ _ us hl => match us, hl with | [_, _, _], _ => rfl
  obtain ⟨fd_pair_parting, F_pair_parting⟩ := d.def_ 38 (d := ⟨("_pair_parting", none), "_pair_parting", "_pair_parting", defArgs s_pair_parting, defBody s_pair_parting, defScope s_pair_parting, [], []⟩) rfl
  have g_pair_parting : mg "_pair_parting" = some (.ref (ga K "_pair_parting")) := He.glo_ok X G (d.fact 67 (f := .glo "_pair_parting") rfl)
  have L_pair_parting : L2.Fun K "_pair_parting" "_pair_parting" s_pair_parting (fAd K ("_pair_parting", none)) fd_pair_parting := He5.fun_of F_pair_parting
  have B_pair_parting : Binds K fd_pair_parting ["table", "matter", "custom_tree", "pair"] [] := L_pair_parting.binds fun _ _ _ _ _ _ us hl => match us, hl with | [_, _, _, _], _ => rfl
  obtain ⟨fd_pair_partings, F_pair_partings⟩ := d.def_ 39 (d := ⟨("pair_partings", none), "pair_partings", "pair_partings", defArgs s_pair_partings, defBody s_pair_partings, defScope s_pair_partings, [], []⟩) rfl
  have g_pair_partings : mg "pair_partings" = some (.ref (ga K "pair_partings")) := He.glo_ok X G (d.fact 68 (f := .glo "pair_partings") rfl)
  have L_pair_partings : L2.Fun K "pair_partings" "pair_partings" s_pair_partings (fAd K ("pair_partings", none)) fd_pair_partings := He5.fun_of F_pair_partings
  have B_pair_partings : Binds K fd_pair_partings ["table", "matter", "custom_tree"] [] := L_pair_partings.binds fun _ _ _ _ _ _ us hl => match us, hl with | [_, _, _], _ => rfl
  obtain ⟨fd_law_column, F_law_column⟩ := d.def_ 40 (d := ⟨("_law_column", none), "_law_column", "_law_column", defArgs s_law_column, defBody s_law_column, defScope s_law_column, [], []⟩) rfl
  have g_law_column : mg "_law_column" = some (.ref (ga K "_law_column")) := He.glo_ok X G (d.fact 69 (f := .glo "_law_column") rfl)
  have L_law_column : L2.Fun K "_law_column" "_law_column" s_law_column (fAd K ("_law_column", none)) fd_law_column := He5.fun_of F_law_column
  have B_law_column : Binds K fd_law_column ["scope", "spot"] [] := L_law_column.binds fun _ _ _ _ _ _ us hl => match us, hl with | [_, _], _ => rfl
  obtain ⟨fd_law_used, F_law_used⟩ := d.def_ 41 (d := ⟨("_law_used", none), "_law_used", "_law_used", defArgs s_law_used, defBody s_law_used, defScope s_law_used, [], []⟩) rfl
  have g_law_used : mg "_law_used" = some (.ref (ga K "_law_used")) := He.glo_ok X G (d.fact 70 (f := .glo "_law_used") rfl)
  have L_law_used : L2.Fun K "_law_used" "_law_used" s_law_used (fAd K ("_law_used", none)) fd_law_used := He5.fun_of F_law_used
  have B_law_used : Binds K fd_law_used ["scope", "spot"] [] := L_law_used.binds fun _ _ _ _ _ _ us hl => match us, hl with | [_, _], _ => rfl
  obtain ⟨fd_law_joins, F_law_joins⟩ := d.def_ 42 (d := ⟨("_law_joins", none), "_law_joins", "_law_joins", defArgs s_law_joins, defBody s_law_joins, defScope s_law_joins, [], []⟩) rfl
  have g_law_joins : mg "_law_joins" = some (.ref (ga K "_law_joins")) := He.glo_ok X G (d.fact 71 (f := .glo "_law_joins") rfl)
  have L_law_joins : L2.Fun K "_law_joins" "_law_joins" s_law_joins (fAd K ("_law_joins", none)) fd_law_joins := He5.fun_of F_law_joins
  have B_law_joins : Binds K fd_law_joins ["customs_here", "some"] [] := L_law_joins.binds fun _ _ _ _ _ _ us hl => match us, hl with | [_, _], _ => rfl
  obtain ⟨fd_law_side, F_law_side⟩ := d.def_ 43 (d := ⟨("_law_side", none), "_law_side", "_law_side", defArgs s_law_side, defBody s_law_side, defScope s_law_side, [], []⟩) rfl
  have g_law_side : mg "_law_side" = some (.ref (ga K "_law_side")) := He.glo_ok X G (d.fact 72 (f := .glo "_law_side") rfl)
  have L_law_side : L2.Fun K "_law_side" "_law_side" s_law_side (fAd K ("_law_side", none)) fd_law_side := He5.fun_of F_law_side
  have B_law_side : Binds K fd_law_side ["column_here", "some", "pair"] [] := L_law_side.binds fun _ _ _ _ _ _ us hl => match us, hl with | [_, _, _], _ => rfl
  obtain ⟨fd_law_sides, F_law_sides⟩ := d.def_ 44 (d := ⟨("_law_sides", none), "_law_sides", "_law_sides", defArgs s_law_sides, defBody s_law_sides, defScope s_law_sides, [], []⟩) rfl
  have g_law_sides : mg "_law_sides" = some (.ref (ga K "_law_sides")) := He.glo_ok X G (d.fact 73 (f := .glo "_law_sides") rfl)
  have L_law_sides : L2.Fun K "_law_sides" "_law_sides" s_law_sides (fAd K ("_law_sides", none)) fd_law_sides := He5.fun_of F_law_sides
  have B_law_sides : Binds K fd_law_sides ["column_here", "some"] [] := L_law_sides.binds fun _ _ _ _ _ _ us hl => match us, hl with | [_, _], _ => rfl
  obtain ⟨fd_law_agree, F_law_agree⟩ := d.def_ 45 (d := ⟨("_law_agree", none), "_law_agree", "_law_agree", defArgs s_law_agree, defBody s_law_agree, defScope s_law_agree, [], []⟩) rfl
  have g_law_agree : mg "_law_agree" = some (.ref (ga K "_law_agree")) := He.glo_ok X G (d.fact 74 (f := .glo "_law_agree") rfl)
  have L_law_agree : L2.Fun K "_law_agree" "_law_agree" s_law_agree (fAd K ("_law_agree", none)) fd_law_agree := He5.fun_of F_law_agree
  have B_law_agree : Binds K fd_law_agree ["one", "other"] [] := L_law_agree.binds fun _ _ _ _ _ _ us hl => match us, hl with | [_, _], _ => rfl
  obtain ⟨fd_custom_trees, F_custom_trees⟩ := d.def_ 46 (d := ⟨("custom_trees", none), "custom_trees", "custom_trees", defArgs s_custom_trees, defBody s_custom_trees, defScope s_custom_trees, [], []⟩) rfl
  have g_custom_trees : mg "custom_trees" = some (.ref (ga K "custom_trees")) := He.glo_ok X G (d.fact 75 (f := .glo "custom_trees") rfl)
  have L_custom_trees : L2.Fun K "custom_trees" "custom_trees" s_custom_trees (fAd K ("custom_trees", none)) fd_custom_trees := He5.fun_of F_custom_trees
  have B_custom_trees : Binds K fd_custom_trees ["table", "matter"] [] := L_custom_trees.binds fun _ _ _ _ _ _ us hl => match us, hl with | [_, _], _ => rfl
  obtain ⟨fd_law_custom_trees, F_law_custom_trees⟩ := d.def_ 47 (d := ⟨("_law_custom_trees", none), "_law_custom_trees", "_law_custom_trees", defArgs s_law_custom_trees, defBody s_law_custom_trees, defScope s_law_custom_trees, [], []⟩) rfl
  have g_law_custom_trees : mg "_law_custom_trees" = some (.ref (ga K "_law_custom_trees")) := He.glo_ok X G (d.fact 76 (f := .glo "_law_custom_trees") rfl)
  have L_law_custom_trees : L2.Fun K "_law_custom_trees" "_law_custom_trees" s_law_custom_trees (fAd K ("_law_custom_trees", none)) fd_law_custom_trees := He5.fun_of F_law_custom_trees
  have B_law_custom_trees : Binds K fd_law_custom_trees ["customs_here"] [] := L_law_custom_trees.binds fun _ _ _ _ _ _ us hl => match us, hl with | [_], _ => rfl
  obtain ⟨fd_law_turned, F_law_turned⟩ := d.def_ 48 (d := ⟨("_law_turned", none), "_law_turned", "_law_turned", defArgs s_law_turned, defBody s_law_turned, defScope s_law_turned, [], []⟩) rfl
  have g_law_turned : mg "_law_turned" = some (.ref (ga K "_law_turned")) := He.glo_ok X G (d.fact 77 (f := .glo "_law_turned") rfl)
  have L_law_turned : L2.Fun K "_law_turned" "_law_turned" s_law_turned (fAd K ("_law_turned", none)) fd_law_turned := He5.fun_of F_law_turned
  have B_law_turned : Binds K fd_law_turned ["columns"] [] := L_law_turned.binds fun _ _ _ _ _ _ us hl => match us, hl with | [_], _ => rfl
  obtain ⟨fd_law_drawn, F_law_drawn⟩ := d.def_ 49 (d := ⟨("_law_drawn", none), "_law_drawn", "_law_drawn", defArgs s_law_drawn, defBody s_law_drawn, defScope s_law_drawn, [], []⟩) rfl
  have g_law_drawn : mg "_law_drawn" = some (.ref (ga K "_law_drawn")) := He.glo_ok X G (d.fact 78 (f := .glo "_law_drawn") rfl)
  have L_law_drawn : L2.Fun K "_law_drawn" "_law_drawn" s_law_drawn (fAd K ("_law_drawn", none)) fd_law_drawn := He5.fun_of F_law_drawn
  have B_law_drawn : Binds K fd_law_drawn ["state"] [] := L_law_drawn.binds fun _ _ _ _ _ _ us hl => match us, hl with | [_], _ => rfl
  obtain ⟨fd_law_big, F_law_big⟩ := d.def_ 50 (d := ⟨("_law_big", none), "_law_big", "_law_big", defArgs s_law_big, defBody s_law_big, defScope s_law_big, [], []⟩) rfl
  have g_law_big : mg "_law_big" = some (.ref (ga K "_law_big")) := He.glo_ok X G (d.fact 79 (f := .glo "_law_big") rfl)
  have L_law_big : L2.Fun K "_law_big" "_law_big" s_law_big (fAd K ("_law_big", none)) fd_law_big := He5.fun_of F_law_big
  have B_law_big : Binds K fd_law_big ["state"] [] := L_law_big.binds fun _ _ _ _ _ _ us hl => match us, hl with | [_], _ => rfl
  obtain ⟨fd_told, F_told⟩ := d.def_ 51 (d := ⟨("_told", none), "_told", "_told", defArgs s_told, defBody s_told, defScope s_told, [], []⟩) rfl
  have g_told : mg "_told" = some (.ref (ga K "_told")) := He.glo_ok X G (d.fact 80 (f := .glo "_told") rfl)
  have L_told : L2.Fun K "_told" "_told" s_told (fAd K ("_told", none)) fd_told := He5.fun_of F_told
  have B_told : Binds K fd_told ["table", "matter"] [] := L_told.binds fun _ _ _ _ _ _ us hl => match us, hl with | [_, _], _ => rfl
  obtain ⟨fd_all_told, F_all_told⟩ := d.def_ 52 (d := ⟨("_all_told", none), "_all_told", "_all_told", defArgs s_all_told, defBody s_all_told, defScope s_all_told, [], []⟩) rfl
  have g_all_told : mg "_all_told" = some (.ref (ga K "_all_told")) := He.glo_ok X G (d.fact 81 (f := .glo "_all_told") rfl)
  have L_all_told : L2.Fun K "_all_told" "_all_told" s_all_told (fAd K ("_all_told", none)) fd_all_told := He5.fun_of F_all_told
  have B_all_told : Binds K fd_all_told ["table"] [] := L_all_told.binds fun _ _ _ _ _ _ us hl => match us, hl with | [_], _ => rfl
  obtain ⟨fd_more, F_more⟩ := d.def_ 53 (d := ⟨("_more", none), "_more", "_more", defArgs s_more, defBody s_more, defScope s_more, [], []⟩) rfl
  have g_more : mg "_more" = some (.ref (ga K "_more")) := He.glo_ok X G (d.fact 82 (f := .glo "_more") rfl)
  have L_more : L2.Fun K "_more" "_more" s_more (fAd K ("_more", none)) fd_more := He5.fun_of F_more
  have B_more : Binds K fd_more ["start", "choice"] [] := L_more.binds fun _ _ _ _ _ _ us hl => match us, hl with | [_, _], _ => rfl
  obtain ⟨fd_any_cross, F_any_cross⟩ := d.def_ 54 (d := ⟨("_any_cross", none), "_any_cross", "_any_cross", defArgs s_any_cross, defBody s_any_cross, defScope s_any_cross, [], []⟩) rfl
  have g_any_cross : mg "_any_cross" = some (.ref (ga K "_any_cross")) := He.glo_ok X G (d.fact 83 (f := .glo "_any_cross") rfl)
  have L_any_cross : L2.Fun K "_any_cross" "_any_cross" s_any_cross (fAd K ("_any_cross", none)) fd_any_cross := He5.fun_of F_any_cross
  have B_any_cross : Binds K fd_any_cross ["lots", "others"] [] := L_any_cross.binds fun _ _ _ _ _ _ us hl => match us, hl with | [_, _], _ => rfl
  obtain ⟨fd_good_arrows, F_good_arrows⟩ := d.def_ 55 (d := ⟨("good_arrows", none), "good_arrows", "good_arrows", defArgs s_good_arrows, defBody s_good_arrows, defScope s_good_arrows, [], []⟩) rfl
  have g_good_arrows : mg "good_arrows" = some (.ref (ga K "good_arrows")) := He.glo_ok X G (d.fact 84 (f := .glo "good_arrows") rfl)
  have L_good_arrows : L2.Fun K "good_arrows" "good_arrows" s_good_arrows (fAd K ("good_arrows", none)) fd_good_arrows := He5.fun_of F_good_arrows
  have B_good_arrows : Binds K fd_good_arrows ["table"] [] := L_good_arrows.binds fun _ _ _ _ _ _ us hl => match us, hl with | [_], _ => rfl
  obtain ⟨fd_law_longer, F_law_longer⟩ := d.def_ 56 (d := ⟨("_law_longer", none), "_law_longer", "_law_longer", defArgs s_law_longer, defBody s_law_longer, defScope s_law_longer, [], []⟩) rfl
  have g_law_longer : mg "_law_longer" = some (.ref (ga K "_law_longer")) := He.glo_ok X G (d.fact 85 (f := .glo "_law_longer") rfl)
  have L_law_longer : L2.Fun K "_law_longer" "_law_longer" s_law_longer (fAd K ("_law_longer", none)) fd_law_longer := He5.fun_of F_law_longer
  have B_law_longer : Binds K fd_law_longer ["scope", "spot", "found"] [] := L_law_longer.binds fun _ _ _ _ _ _ us hl => match us, hl with | [_, _, _], _ => rfl
  obtain ⟨fd_law_every_good, F_law_every_good⟩ := d.def_ 57 (d := ⟨("_law_every_good", none), "_law_every_good", "_law_every_good", defArgs s_law_every_good, defBody s_law_every_good, defScope s_law_every_good, [], []⟩) rfl
  have g_law_every_good : mg "_law_every_good" = some (.ref (ga K "_law_every_good")) := He.glo_ok X G (d.fact 86 (f := .glo "_law_every_good") rfl)
  have L_law_every_good : L2.Fun K "_law_every_good" "_law_every_good" s_law_every_good (fAd K ("_law_every_good", none)) fd_law_every_good := He5.fun_of F_law_every_good
  have B_law_every_good : Binds K fd_law_every_good ["scope"] [] := L_law_every_good.binds fun _ _ _ _ _ _ us hl => match us, hl with | [_], _ => rfl
  obtain ⟨fd_law_is_right, F_law_is_right⟩ := d.def_ 58 (d := ⟨("_law_is_right", none), "_law_is_right", "_law_is_right", defArgs s_law_is_right, defBody s_law_is_right, defScope s_law_is_right, [], []⟩) rfl
  have g_law_is_right : mg "_law_is_right" = some (.ref (ga K "_law_is_right")) := He.glo_ok X G (d.fact 87 (f := .glo "_law_is_right") rfl)
  have L_law_is_right : L2.Fun K "_law_is_right" "_law_is_right" s_law_is_right (fAd K ("_law_is_right", none)) fd_law_is_right := He5.fun_of F_law_is_right
  have B_law_is_right : Binds K fd_law_is_right ["scope"] [] := L_law_is_right.binds fun _ _ _ _ _ _ us hl => match us, hl with | [_], _ => rfl
  obtain ⟨fd_law, F_law⟩ := d.def_ 59 (d := ⟨("law", none), "law", "law", defArgs s_law, defBody s_law, defScope s_law, [], []⟩) rfl
  have g_law : mg "law" = some (.ref (ga K "law")) := He.glo_ok X G (d.fact 88 (f := .glo "law") rfl)
  have L_law : L2.Fun K "law" "law" s_law (fAd K ("law", none)) fd_law := He5.fun_of F_law
  have B_law : Binds K fd_law ["script"] [] := L_law.binds fun _ _ _ _ _ _ us hl => match us, hl with | [_], _ => rfl
  obtain ⟨fd_law_caught, F_law_caught⟩ := d.def_ 60 (d := ⟨("_law_caught", none), "_law_caught", "_law_caught", defArgs s_law_caught, defBody s_law_caught, defScope s_law_caught, [], []⟩) rfl
  have g_law_caught : mg "_law_caught" = some (.ref (ga K "_law_caught")) := He.glo_ok X G (d.fact 89 (f := .glo "_law_caught") rfl)
  have L_law_caught : L2.Fun K "_law_caught" "_law_caught" s_law_caught (fAd K ("_law_caught", none)) fd_law_caught := He5.fun_of F_law_caught
  have B_law_caught : Binds K fd_law_caught ["work"] [] := L_law_caught.binds fun _ _ _ _ _ _ us hl => match us, hl with | [_], _ => rfl
  obtain ⟨fd_TooMany_init, F_TooMany_init⟩ := d.def_ 61 (d := ⟨("TooMany", some "__init__"), "__init__", "TooMany.__init__", defArgs s_TooMany_init, defBody s_TooMany_init, defScope s_TooMany_init, [], []⟩) rfl
  have L_TooMany_init : L2.Fun K "__init__" "TooMany.__init__" s_TooMany_init (fAd K ("TooMany", some "__init__")) fd_TooMany_init := He5.fun_of F_TooMany_init
  have B_TooMany_init : Binds K fd_TooMany_init ["self", "most"] [] := L_TooMany_init.binds fun _ _ _ _ _ _ us hl => match us, hl with | [_, _], _ => rfl
  obtain ⟨t_MOST_ARROWS, k_MOST_ARROWS⟩ := He.int_ok X G (d.fact 17 (f := .int "MOST_ARROWS" 5000) rfl)
  obtain ⟨t_MOST_KIND, k_MOST_KIND⟩ := He.int_ok X G (d.fact 18 (f := .int "MOST_KIND" 6) rfl)
  obtain ⟨t_MOST_MATTERS, k_MOST_MATTERS⟩ := He.int_ok X G (d.fact 19 (f := .int "MOST_MATTERS" 8) rfl)
  obtain ⟨t_MOST_VALLEYS, k_MOST_VALLEYS⟩ := He.int_ok X G (d.fact 20 (f := .int "MOST_VALLEYS" 12) rfl)
  have m0 := c.more
  obtain ⟨q0, m1⟩ := b2 m0
  obtain ⟨q1, m2⟩ := b2 m1
  obtain ⟨q2, m3⟩ := b2 m2
  obtain ⟨q3, m4⟩ := b2 m3
  obtain ⟨q4, m5⟩ := b2 m4
  obtain ⟨q5, m6⟩ := b2 m5
  obtain ⟨q6, m7⟩ := b2 m6
  obtain ⟨q7, m8⟩ := b2 m7
  obtain ⟨q8, m9⟩ := b2 m8
  obtain ⟨q9, m10⟩ := b2 m9
  have E_BadCustomTree := errFB_ok q0
  have E_BadKinds := errFB_ok q1
  have E_BadMatter := errFB_ok q2
  have E_BadRows := errFB_ok q3
  have E_BadTable := errFB_ok q4
  have E_Unread := errFB_ok q5
  have E_TooMany := x1B_ok q6
  have C_Table := clsFB_ok q7
  have M_Table := mkB_ok q8
  have hap : apartB K tfs = true := m10
  have T : Txt K mg (csK K) ⟨t_MOST_ARROWS, t_MOST_KIND, t_MOST_MATTERS, t_MOST_VALLEYS⟩ := {
    n_abs := He.free_ok X G (d.fact 0 (f := .free "abs") rfl)
    n_all := He.free_ok X G (d.fact 1 (f := .free "all") rfl)
    n_any := He.free_ok X G (d.fact 2 (f := .free "any") rfl)
    n_bool := He.free_ok X G (d.fact 3 (f := .free "bool") rfl)
    n_enumerate := He.free_ok X G (d.fact 4 (f := .free "enumerate") rfl)
    n_int := He.free_ok X G (d.fact 5 (f := .free "int") rfl)
    n_isinstance := He.free_ok X G (d.fact 6 (f := .free "isinstance") rfl)
    n_len := He.free_ok X G (d.fact 7 (f := .free "len") rfl)
    n_list := He.free_ok X G (d.fact 8 (f := .free "list") rfl)
    n_max := He.free_ok X G (d.fact 9 (f := .free "max") rfl)
    n_min := He.free_ok X G (d.fact 10 (f := .free "min") rfl)
    n_range := He.free_ok X G (d.fact 11 (f := .free "range") rfl)
    n_repr := He.free_ok X G (d.fact 12 (f := .free "repr") rfl)
    n_set := He.free_ok X G (d.fact 13 (f := .free "set") rfl)
    n_sorted := He.free_ok X G (d.fact 14 (f := .free "sorted") rfl)
    n_tuple := He.free_ok X G (d.fact 15 (f := .free "tuple") rfl)
    n_zip := He.free_ok X G (d.fact 16 (f := .free "zip") rfl)
    k_MOST_ARROWS := ⟨trivial, k_MOST_ARROWS⟩
    k_MOST_KIND := ⟨trivial, k_MOST_KIND⟩
    k_MOST_MATTERS := ⟨trivial, k_MOST_MATTERS⟩
    k_MOST_VALLEYS := ⟨trivial, k_MOST_VALLEYS⟩
    m_combinations := PySem.W.mg_of X G (He.eqO_ok q9)
    g_BadCustomTree := He.glo_ok X G (d.fact 21 (f := .glo "BadCustomTree") rfl)
    g_BadKinds := He.glo_ok X G (d.fact 22 (f := .glo "BadKinds") rfl)
    g_BadMatter := He.glo_ok X G (d.fact 23 (f := .glo "BadMatter") rfl)
    g_BadRows := He.glo_ok X G (d.fact 24 (f := .glo "BadRows") rfl)
    g_BadTable := He.glo_ok X G (d.fact 25 (f := .glo "BadTable") rfl)
    g_FoundError := He.glo_ok X G (d.fact 26 (f := .glo "FoundError") rfl)
    g_Table := He.glo_ok X G (d.fact 27 (f := .glo "Table") rfl)
    g_TooMany := He.glo_ok X G (d.fact 28 (f := .glo "TooMany") rfl)
    g_Unread := He.glo_ok X G (d.fact 29 (f := .glo "Unread") rfl)
    x_BadCustomTree := E_BadCustomTree.x
    e_BadCustomTree := E_BadCustomTree.e
    b_BadCustomTree := E_BadCustomTree.b
    t_BadCustomTree := E_BadCustomTree.t
    r_BadCustomTree := E_BadCustomTree.r
    i_BadCustomTree := E_BadCustomTree.i
    v_BadCustomTree := E_BadCustomTree.v
    x_BadKinds := E_BadKinds.x
    e_BadKinds := E_BadKinds.e
    b_BadKinds := E_BadKinds.b
    t_BadKinds := E_BadKinds.t
    r_BadKinds := E_BadKinds.r
    i_BadKinds := E_BadKinds.i
    v_BadKinds := E_BadKinds.v
    x_BadMatter := E_BadMatter.x
    e_BadMatter := E_BadMatter.e
    b_BadMatter := E_BadMatter.b
    t_BadMatter := E_BadMatter.t
    r_BadMatter := E_BadMatter.r
    i_BadMatter := E_BadMatter.i
    v_BadMatter := E_BadMatter.v
    x_BadRows := E_BadRows.x
    e_BadRows := E_BadRows.e
    b_BadRows := E_BadRows.b
    t_BadRows := E_BadRows.t
    r_BadRows := E_BadRows.r
    i_BadRows := E_BadRows.i
    v_BadRows := E_BadRows.v
    x_BadTable := E_BadTable.x
    e_BadTable := E_BadTable.e
    b_BadTable := E_BadTable.b
    t_BadTable := E_BadTable.t
    r_BadTable := E_BadTable.r
    i_BadTable := E_BadTable.i
    v_BadTable := E_BadTable.v
    x_Unread := E_Unread.x
    e_Unread := E_Unread.e
    b_Unread := E_Unread.b
    t_Unread := E_Unread.t
    r_Unread := E_Unread.r
    i_Unread := E_Unread.i
    v_Unread := E_Unread.v
    fa_TooMany := E_TooMany.n
    r_TooMany := E_TooMany.r
    i_TooMany := E_TooMany.k
    ic_Table := C_Table.ic
    no_Table := C_Table.no
    i_Table := C_Table.i
    na_Table_kinds := C_Table.na "kinds" (by simp)
    na_Table_rows := C_Table.na "rows" (by simp)
  }
  have e := hfa.symm.trans g_law
  cases e
  refine ⟨tfs.map (fun p => cT K p.1), fd_law, spLaw K (TTof K tfs), ⟨fun p hp => ?_, fun p hp => ?_, fun p hp => ?_⟩, fun base KI GI TB => ?_, fun s u => .of_eq ?_, fun H a ns hl _ hH hS => ⟨a, ns, rfl, hS, hl, tabs_of hH, fun _ => rfl⟩⟩
  · obtain ⟨r, hr, rfl⟩ := List.mem_map.mp hp
    exact c.empty r.1 (List.mem_map.mpr ⟨r, hr, rfl⟩)
  · obtain ⟨r, hr, rfl⟩ := List.mem_map.mp hp
    exact PySem.W.codeHd_of_K X (c.hd r.1 (List.mem_map.mpr ⟨r, hr, rfl⟩))
  · obtain ⟨r, hr, rfl⟩ := List.mem_map.mp hp
    exact c.out r.1 (List.mem_map.mpr ⟨r, hr, rfl⟩)
  · have c_is_number := ok_is_number (P := PySem.Challenge.rw_oncefound_k38_all_good_arrows.prog) (w := w) (base := base) (TT := TTof K tfs) T ⟨_, _, L_is_number, g_is_number, L_is_number.kp, B_is_number⟩
    have c_first_unread := ok_first_unread (P := PySem.Challenge.rw_oncefound_k38_all_good_arrows.prog) (w := w) (base := base) (TT := TTof K tfs) T ⟨_, _, L_first_unread, g_first_unread, L_first_unread.kp, B_first_unread⟩
    have c_law_put := ok_law_put (P := PySem.Challenge.rw_oncefound_k38_all_good_arrows.prog) (w := w) (base := base) (TT := TTof K tfs) T ⟨_, _, L_law_put, g_law_put, L_law_put.kp, B_law_put⟩
    have c_law_draw := ok_law_draw (P := PySem.Challenge.rw_oncefound_k38_all_good_arrows.prog) (w := w) (base := base) (TT := TTof K tfs) T ⟨_, _, L_law_draw, g_law_draw, L_law_draw.kp, B_law_draw⟩
    have c_check_table := ok_check_table (P := PySem.Challenge.rw_oncefound_k38_all_good_arrows.prog) (w := w) (base := base) (TT := TTof K tfs) T ⟨_, _, L_check_table, g_check_table, L_check_table.kp, B_check_table⟩
    have c_law_begun := ok_law_begun (P := PySem.Challenge.rw_oncefound_k38_all_good_arrows.prog) (w := w) (base := base) T ⟨_, _, L_law_begun, g_law_begun, L_law_begun.kp, B_law_begun⟩
    have c_is_rising := ok_is_rising (P := PySem.Challenge.rw_oncefound_k38_all_good_arrows.prog) (w := w) (base := base) (TT := TTof K tfs) T ⟨_, _, L_is_rising, g_is_rising, L_is_rising.kp, B_is_rising⟩
    have c_do_cross := ok_do_cross (P := PySem.Challenge.rw_oncefound_k38_all_good_arrows.prog) (w := w) (base := base) (TT := TTof K tfs) T ⟨_, _, L_do_cross, g_do_cross, L_do_cross.kp, B_do_cross⟩
    have c_law_pairs := ok_law_pairs (P := PySem.Challenge.rw_oncefound_k38_all_good_arrows.prog) (w := w) (base := base) (TT := TTof K tfs) T ⟨_, _, L_law_pairs, g_law_pairs, L_law_pairs.kp, B_law_pairs⟩
    have c_law_crosses := ok_law_crosses (P := PySem.Challenge.rw_oncefound_k38_all_good_arrows.prog) (w := w) (base := base) (TT := TTof K tfs) T ⟨_, _, L_law_crosses, g_law_crosses, L_law_crosses.kp, B_law_crosses⟩
    have c_ties_at := ok_ties_at (P := PySem.Challenge.rw_oncefound_k38_all_good_arrows.prog) (w := w) (base := base) (TT := TTof K tfs) T ⟨_, _, L_ties_at, g_ties_at, L_ties_at.kp, B_ties_at⟩
    have c_law_column := ok_law_column (P := PySem.Challenge.rw_oncefound_k38_all_good_arrows.prog) (w := w) (base := base) (TT := TTof K tfs) T ⟨_, _, L_law_column, g_law_column, L_law_column.kp, B_law_column⟩
    have c_law_joins := ok_law_joins (P := PySem.Challenge.rw_oncefound_k38_all_good_arrows.prog) (w := w) (base := base) (TT := TTof K tfs) T ⟨_, _, L_law_joins, g_law_joins, L_law_joins.kp, B_law_joins⟩
    have c_law_side := ok_law_side (P := PySem.Challenge.rw_oncefound_k38_all_good_arrows.prog) (w := w) (base := base) (TT := TTof K tfs) T ⟨_, _, L_law_side, g_law_side, L_law_side.kp, B_law_side⟩
    have c_law_turned := ok_law_turned (P := PySem.Challenge.rw_oncefound_k38_all_good_arrows.prog) (w := w) (base := base) (TT := TTof K tfs) T ⟨_, _, L_law_turned, g_law_turned, L_law_turned.kp, B_law_turned⟩
    have c_more := ok_more (P := PySem.Challenge.rw_oncefound_k38_all_good_arrows.prog) (w := w) (base := base) (TT := TTof K tfs) T ⟨_, _, L_more, g_more, L_more.kp, B_more⟩
    have c_is_between := ok_is_between (P := PySem.Challenge.rw_oncefound_k38_all_good_arrows.prog) (w := w) (base := base) (TT := TTof K tfs) T ⟨_, _, L_is_between, g_is_between, L_is_between.kp, B_is_between⟩ c_is_number
    have c_law_pick := ok_law_pick (P := PySem.Challenge.rw_oncefound_k38_all_good_arrows.prog) (w := w) (base := base) (TT := TTof K tfs) T ⟨_, _, L_law_pick, g_law_pick, L_law_pick.kp, B_law_pick⟩ c_law_draw
    have c_law_mixed := ok_law_mixed (P := PySem.Challenge.rw_oncefound_k38_all_good_arrows.prog) (w := w) (base := base) (TT := TTof K tfs) T ⟨_, _, L_law_mixed, g_law_mixed, L_law_mixed.kp, B_law_mixed⟩ c_law_draw
    have c_is_full := ok_is_full (P := PySem.Challenge.rw_oncefound_k38_all_good_arrows.prog) (w := w) (base := base) (TT := TTof K tfs) T ⟨_, _, L_is_full, g_is_full, L_is_full.kp, B_is_full⟩ c_check_table
    have c_steps_to := ok_steps_to (P := PySem.Challenge.rw_oncefound_k38_all_good_arrows.prog) (w := w) (base := base) (TT := TTof K tfs) T ⟨_, _, L_steps_to, g_steps_to, L_steps_to.kp, B_steps_to⟩ c_ties_at
    have c_law_founded := ok_law_founded (P := PySem.Challenge.rw_oncefound_k38_all_good_arrows.prog) (w := w) (base := base) (TT := TTof K tfs) T ⟨_, _, L_law_founded, g_law_founded, L_law_founded.kp, B_law_founded⟩ c_law_draw c_law_put
    have c_law_any := ok_law_any (P := PySem.Challenge.rw_oncefound_k38_all_good_arrows.prog) (w := w) (base := base) (TT := TTof K tfs) T ⟨_, _, L_law_any, g_law_any, L_law_any.kp, B_law_any⟩ c_law_draw
    have c_law_near := ok_law_near (P := PySem.Challenge.rw_oncefound_k38_all_good_arrows.prog) (w := w) (base := base) (TT := TTof K tfs) T ⟨_, _, L_law_near, g_law_near, L_law_near.kp, B_law_near⟩ c_law_draw c_law_put
    have c_law_used := ok_law_used (P := PySem.Challenge.rw_oncefound_k38_all_good_arrows.prog) (w := w) (base := base) (TT := TTof K tfs) T ⟨_, _, L_law_used, g_law_used, L_law_used.kp, B_law_used⟩ c_law_column
    have c_law_sides := ok_law_sides (P := PySem.Challenge.rw_oncefound_k38_all_good_arrows.prog) (w := w) (base := base) (TT := TTof K tfs) T ⟨_, _, L_law_sides, g_law_sides, L_law_sides.kp, B_law_sides⟩ c_law_side
    have c_law_agree := ok_law_agree (P := PySem.Challenge.rw_oncefound_k38_all_good_arrows.prog) (w := w) (base := base) (TT := TTof K tfs) T ⟨_, _, L_law_agree, g_law_agree, L_law_agree.kp, B_law_agree⟩ c_law_crosses
    have c_law_custom_trees := ok_law_custom_trees (P := PySem.Challenge.rw_oncefound_k38_all_good_arrows.prog) (w := w) (base := base) (TT := TTof K tfs) T ⟨_, _, L_law_custom_trees, g_law_custom_trees, L_law_custom_trees.kp, B_law_custom_trees⟩ c_law_pairs c_law_joins
    have c_any_cross := ok_any_cross (P := PySem.Challenge.rw_oncefound_k38_all_good_arrows.prog) (w := w) (base := base) (TT := TTof K tfs) T ⟨_, _, L_any_cross, g_any_cross, L_any_cross.kp, B_any_cross⟩ c_do_cross
    have c_is_kind := ok_is_kind (P := PySem.Challenge.rw_oncefound_k38_all_good_arrows.prog) (w := w) (base := base) (TT := TTof K tfs) T ⟨_, _, L_is_kind, g_is_kind, L_is_kind.kp, B_is_kind⟩ c_is_between
    have c_is_cell := ok_is_cell (P := PySem.Challenge.rw_oncefound_k38_all_good_arrows.prog) (w := w) (base := base) (TT := TTof K tfs) T ⟨_, _, L_is_cell, g_is_cell, L_is_cell.kp, B_is_cell⟩ c_is_between
    have c_law_bad_table := ok_law_bad_table (P := PySem.Challenge.rw_oncefound_k38_all_good_arrows.prog) (w := w) (base := base) (TT := TTof K tfs) T ⟨_, _, L_law_bad_table, g_law_bad_table, L_law_bad_table.kp, B_law_bad_table⟩ c_law_pick
    have c_is_lot := ok_is_lot (P := PySem.Challenge.rw_oncefound_k38_all_good_arrows.prog) (w := w) (base := base) (TT := TTof K tfs) T ⟨_, _, L_is_lot, g_is_lot, L_is_lot.kp, B_is_lot⟩ c_is_between c_is_rising
    have c_check_matter := ok_check_matter (P := PySem.Challenge.rw_oncefound_k38_all_good_arrows.prog) (w := w) (base := base) (TT := TTof K tfs) T ⟨_, _, L_check_matter, g_check_matter, L_check_matter.kp, B_check_matter⟩ c_is_between
    have c_check_full := ok_check_full (P := PySem.Challenge.rw_oncefound_k38_all_good_arrows.prog) (w := w) (base := base) (TT := TTof K tfs) T ⟨_, _, L_check_full, g_check_full, L_check_full.kp, B_check_full⟩ c_is_full
    have c_law_true := ok_law_true (P := PySem.Challenge.rw_oncefound_k38_all_good_arrows.prog) (w := w) (base := base) (TT := TTof K tfs) T ⟨_, _, L_law_true, g_law_true, L_law_true.kp, B_law_true⟩ c_law_founded c_law_mixed
    have c_law_ringed := ok_law_ringed (P := PySem.Challenge.rw_oncefound_k38_all_good_arrows.prog) (w := w) (base := base) (TT := TTof K tfs) T ⟨_, _, L_law_ringed, g_law_ringed, L_law_ringed.kp, B_law_ringed⟩ c_law_mixed c_law_put
    have c_do_join := ok_do_join (P := PySem.Challenge.rw_oncefound_k38_all_good_arrows.prog) (w := w) (base := base) (TT := TTof K tfs) T ⟨_, _, L_do_join, g_do_join, L_do_join.kp, B_do_join⟩ c_steps_to
    have c_pair_parting := ok_pair_parting (P := PySem.Challenge.rw_oncefound_k38_all_good_arrows.prog) (w := w) (base := base) (TT := TTof K tfs) T ⟨_, _, L_pair_parting, g_pair_parting, L_pair_parting.kp, B_pair_parting⟩ c_steps_to
    have c_law_big := ok_law_big (P := PySem.Challenge.rw_oncefound_k38_all_good_arrows.prog) (w := w) (base := base) (TT := TTof K tfs) T ⟨_, _, L_law_big, g_law_big, L_law_big.kp, B_law_big⟩ c_law_mixed c_law_pick c_law_draw c_law_turned
    have c_law_longer := ok_law_longer (P := PySem.Challenge.rw_oncefound_k38_all_good_arrows.prog) (w := w) (base := base) (TT := TTof K tfs) T ⟨_, _, L_law_longer, g_law_longer, L_law_longer.kp, B_law_longer⟩ c_law_column c_law_custom_trees c_law_used c_law_sides c_law_agree
    have c_are_kinds := ok_are_kinds (P := PySem.Challenge.rw_oncefound_k38_all_good_arrows.prog) (w := w) (base := base) (TT := TTof K tfs) T ⟨_, _, L_are_kinds, g_are_kinds, L_are_kinds.kp, B_are_kinds⟩ c_is_kind
    have c_is_row_for := ok_is_row_for (P := PySem.Challenge.rw_oncefound_k38_all_good_arrows.prog) (w := w) (base := base) (TT := TTof K tfs) T ⟨_, _, L_is_row_for, g_is_row_for, L_is_row_for.kp, B_is_row_for⟩ c_is_cell
    have c_used := ok_used (P := PySem.Challenge.rw_oncefound_k38_all_good_arrows.prog) (w := w) (base := base) (TT := TTof K tfs) T ⟨_, _, L_used, g_used, L_used.kp, B_used⟩ c_check_table c_check_matter
    have c_law_wide := ok_law_wide (P := PySem.Challenge.rw_oncefound_k38_all_good_arrows.prog) (w := w) (base := base) (TT := TTof K tfs) T ⟨_, _, L_law_wide, g_law_wide, L_law_wide.kp, B_law_wide⟩ c_law_draw c_law_pick c_law_any c_law_ringed c_law_true c_law_near
    have c_is_pair := ok_is_pair (P := PySem.Challenge.rw_oncefound_k38_all_good_arrows.prog) (w := w) (base := base) (TT := TTof K tfs) T ⟨_, _, L_is_pair, g_is_pair, L_is_pair.kp, B_is_pair⟩ c_is_lot
    have c_law_every_good := ok_law_every_good (P := PySem.Challenge.rw_oncefound_k38_all_good_arrows.prog) (w := w) (base := base) (TT := TTof K tfs) T ⟨_, _, L_law_every_good, g_law_every_good, L_law_every_good.kp, B_law_every_good⟩ c_law_longer
    have c_are_rows := ok_are_rows (P := PySem.Challenge.rw_oncefound_k38_all_good_arrows.prog) (w := w) (base := base) (TT := TTof K tfs) T ⟨_, _, L_are_rows, g_are_rows, L_are_rows.kp, B_are_rows⟩ c_is_row_for c_first_unread
    have c_is_custom_tree := ok_is_custom_tree (P := PySem.Challenge.rw_oncefound_k38_all_good_arrows.prog) (w := w) (base := base) (TT := TTof K tfs) T ⟨_, _, L_is_custom_tree, g_is_custom_tree, L_is_custom_tree.kp, B_is_custom_tree⟩ c_check_full c_used c_is_pair c_is_rising c_do_join
    have c_custom_trees := ok_custom_trees (P := PySem.Challenge.rw_oncefound_k38_all_good_arrows.prog) (w := w) (base := base) (TT := TTof K tfs) T ⟨_, _, L_custom_trees, g_custom_trees, L_custom_trees.kp, B_custom_trees⟩ c_check_full c_used c_do_join
    have c_law_drawn := ok_law_drawn (P := PySem.Challenge.rw_oncefound_k38_all_good_arrows.prog) (w := w) (base := base) (TT := TTof K tfs) T ⟨_, _, L_law_drawn, g_law_drawn, L_law_drawn.kp, B_law_drawn⟩ c_law_draw c_law_mixed c_law_turned c_law_wide
    have c_Table_init := ok_Table_init (P := PySem.Challenge.rw_oncefound_k38_all_good_arrows.prog) (w := w) (base := base) (TT := TTof K tfs) T (init2_of L_Table_init M_Table B_Table_init fun s us ws h1 h2 => match us, ws, h1, h2 with | [_], [_, _], _, _ => .of_eq (by obtain ⟨_, _, _, _, _, _, _, _, _, e, _⟩ := L_Table_init.ex; subst e; rfl)) c_are_kinds c_are_rows
    have c_pair_partings := ok_pair_partings (P := PySem.Challenge.rw_oncefound_k38_all_good_arrows.prog) (w := w) (base := base) (TT := TTof K tfs) T ⟨_, _, L_pair_partings, g_pair_partings, L_pair_partings.kp, B_pair_partings⟩ c_is_custom_tree c_pair_parting
    have c_told := ok_told (P := PySem.Challenge.rw_oncefound_k38_all_good_arrows.prog) (w := w) (base := base) (TT := TTof K tfs) T ⟨_, _, L_told, g_told, L_told.kp, B_told⟩ c_custom_trees c_pair_partings
    have c_law_made := ok_law_made (P := PySem.Challenge.rw_oncefound_k38_all_good_arrows.prog) (w := w) (base := base) (TT := TTof K tfs) T ⟨_, _, L_law_made, g_law_made, L_law_made.kp, B_law_made⟩ c_Table_init
    have c_all_told := ok_all_told (P := PySem.Challenge.rw_oncefound_k38_all_good_arrows.prog) (w := w) (base := base) (TT := TTof K tfs) T ⟨_, _, L_all_told, g_all_told, L_all_told.kp, B_all_told⟩ c_check_full c_custom_trees c_told (hasX1_of E_TooMany (init_x1 L_TooMany_init sc_TooMany_init rfl rfl rfl rfl rfl rfl rfl) B_TooMany_init)
    have c_good_arrows := ok_good_arrows (P := PySem.Challenge.rw_oncefound_k38_all_good_arrows.prog) (w := w) (base := base) (TT := TTof K tfs) T ⟨_, _, L_good_arrows, g_good_arrows, L_good_arrows.kp, B_good_arrows⟩ c_all_told c_any_cross c_more
    have c_law_is_right := ok_law_is_right (P := PySem.Challenge.rw_oncefound_k38_all_good_arrows.prog) (w := w) (base := base) (TT := TTof K tfs) T ⟨_, _, L_law_is_right, g_law_is_right, L_law_is_right.kp, B_law_is_right⟩ c_law_every_good c_law_made c_good_arrows
    have c_law_bad_full := ok_law_bad_full (P := PySem.Challenge.rw_oncefound_k38_all_good_arrows.prog) (w := w) (base := base) (TT := TTof K tfs) T ⟨_, _, funC_of F_law_bad_full, g_law_bad_full, L_law_bad_full.kp, B_law_bad_full⟩ c_law_draw c_law_bad_table c_law_put c_Table_init ⟨_, _, L_law_caught, g_law_caught, L_law_caught.kp, B_law_caught⟩ (makesAt_of hap TB (p := (("_law_bad_full", none), "_law_bad_full.<locals>.<lambda>")) (by simp [tfs]))
    have c_law := ok_law (P := PySem.Challenge.rw_oncefound_k38_all_good_arrows.prog) (w := w) (base := base) (TT := TTof K tfs) T (funC_of F_law) c_law_begun c_law_drawn c_law_is_right c_law_bad_full c_good_arrows c_law_big c_law_made ⟨_, _, L_law_caught, g_law_caught, L_law_caught.kp, B_law_caught⟩ (makesAt_of hap TB (p := (("law", none), "law.<locals>.<lambda>")) (by simp [tfs]))
    exact c_law.mono (by decide)
  · obtain ⟨oc, od, dV, kV, doc, pm, an, cdv, ct, osl, e, lk, hcd, hD, _⟩ := F_law.ex
    rcases hD with ⟨_, e2⟩ | ⟨e2, _⟩
    · subst e e2
      rfl
    · exact absurd rfl e2
end Lw
open PySem PySem.W PySem.Calls PyProof.Rows
set_option maxRecDepth 100000 in
set_option maxHeartbeats 0 in
theorem PySem.Challenge.cw_oncefound_k38_all_good_arrows_holds : PySem.Challenge.rw_oncefound_k38_all_good_arrows.Holds := by
  w_on; o_law
  refine HandSHeadRun.head_imp (r := Lw.Rw) (q := view Lw.Rw.prog [0, 80]) (H := Lw.hk) (ob := Lw.ob) (M := 6000) (loose := Lw.loose) (d := HandSHeadRun.topDef Lw.Rw.prog 80) (kwd := []) Lw.ob_eq Lw.run (by kernel_rfl) (by kernel_rfl) (by kernel_rfl) (by rfl) (by first | assumption | decide +kernel) (by decide +kernel) ⟨rfl, rfl, rfl, rfl, rfl, by decide +kernel⟩ ?hw ?hc
  case hw => w_witness2
  case hc =>
    refine DL.walkGE (l := PySem.Challenge.rw_oncefound_k38_all_good_arrows) (n := 63) (k := 27) (x := "script") (CX := fun _ => L2.CX0) rfl (by decide) (by kernel_rfl) ⟨rfl, by decide, by decide⟩ ?F (fun _ _ _ _ _ z => z)
    intro w mg fa h Y G hmg0
    obtain ⟨K, KX, c⟩ := Y
    have hmg : mg ("law" : PySem.Str) = some (.ref fa) := by
      have e : (HandSHeadRun.topDef Lw.Rw.prog 80).name = ("law" : PySem.Str) := by kernel_rfl
      rw [← e]
      exact hmg0
    exact ⟨K, KX, Lw.facts KX G hmg c⟩
