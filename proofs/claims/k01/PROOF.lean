import PyProof.Rows.All
import Wide.All
import OpenK.AllK
import Wide.FinOn
import HandS.Base
import HandS.Call
import HandS.List
import HandS.Comp
import HandS.Dict
import HandS.Iter
import HandS.Text
import HandS.Words
import HandS.Exc
import HandS.ExcOwn
import HandS.Lambda
import HandS.Evl
import HandS.ExcIs
import HandS.TupAny
import HandS.TupMul
import HandS.IsInst
import PyProof.Rows.NestShow
import HandS.Zip
import KE.KExcIs
import HandS.WordsExc
import HandS.EndTab
import HandS.MakeKwOnly
import KE.KDictZip
import KE.KDictItemsList
import HandS.ExcValue
import HandS.GenList
import HandS.HeadWalk
import HandS.HeadHook4
import HandS.HeadNt
import HandS.Head2
import HandS.HeadEnd
import KE.GoesEnum
import PyProof.EnumMake
import HandS.ExcInit
import HandS.ExcField
import HandS.CallLocal
import HandS.Style
import HandS.SortInts
import PyProof.NeKinds
import HandS.TupSets
import HandS.Set
import HandS.SetBool
import HandS.Strs
import HandS.SetFor
import KE.SortData
import PyProof.TupleOfSeq
import KE.KSortTup
import KE.KSortAsk
import HandS.TupLe
import KE.DataMinMax
import HandS.Conv
import KE.KDictSum
import PyProof.DictMoreH
import HandS.SetKeys
import HandS.Deep
import PyProof.Rows.SeqMore
import KE.KDictCopyH
import HandS.DictComp
import HandS.More
import HandS.OwnEq
import KE.KDictKeyed
import KE.KDictWalk
import PySem.Challenge.RW_oncefound_k01_what_a_table_tells
set_option Elab.async false
set_option linter.all false
set_option maxRecDepth 100000
set_option maxHeartbeats 2222222
/-! data, and what holds it in the heap -/
namespace DL
open L2 PySem PySem.Spec PyProof.Rows
open Evl (Ex ex_l ex_t sz_of)

structure FV where
  q : Str
  ps : Arguments
  body : Expr
  scope : Scope
def LamV (F : FV) (c f : Addr) : HO := .ext fun h => ∃ pm ctv, h.get? f = some (PySem.W.kla_obj "<lambda>" F.q F.ps F.body F.scope [] pm c ctv)
inductive D where
  | non | bl (b : Bool) | int (i : Int) | str (x : Str)
  | lst (xs : List D) | tup (xs : List D)
  | dic (ks : List Key) (ds : List D)
  | dit (ks : List (List Key)) (ds : List D)
  | ins (C : Addr) (ns : List Str) (ds : List D)
  | exc (C : Addr) (ns : List Str) (ds : List D)
  | fnv (f : Addr)
  | lam (F : FV)

/-- an exception object that was caught -/
def ExT (C : Addr) (d : Option Addr) (a : Addr) : HO := .ext fun h => ∃ (oe : Obj) (vs : Array Value), h.get? a = some oe ∧ Zc (.ref C) d oe ∧ oe.data = .fields vs

/-- an own class is no built-in one -/
def NoTy (K : PySem.W.Frag) (C : Addr) : Prop := ∀ t ∈ ["int", "bool", "str", "tuple", "list", "dict"], PySem.W.kitOne K (.ref C) (.type t) = some false
/-- what the class at C must say, so that its instances may be asked -/
structure InC (K : PySem.W.Frag) (C : Addr) : Prop where
  cl : Cls K C
  ha : PySem.W.findIn K (.ref C) "__class__" = some (some (.builtin "object.__class__"))
  hn : PySem.W.specialIn K (.builtin "object.__class__") "__get__" = some (some (.builtin "getset_descriptor.__get__"))
  ht : PySem.W.takesIn K (.builtin "object.__class__") = some true
  hm : PySem.W.mroIn K C (.type "object") = some true
  nt : NoTy K C

mutual
inductive Dn (K : PySem.W.Frag) (H : Hp) : V → D → Prop
  | non : Dn K H .non .non
  | bl (b : Bool) : Dn K H (.bl b) (.bl b)
  | int (i : Int) : Dn K H (.int i) (.int i)
  | str (x : Str) : Dn K H (.str x) (.str x)
  | fnv (f : Addr) : Dn K H (.ref f) (.fnv f)
  | lam {f c : Addr} {F : FV} : H f = some (LamV F c f) → H c = some (LamX.CodeO c F.q) → Dn K H (.ref f) (.lam F)
  | lst {a : Addr} {xs : List V} {ds : List D} : SqL K H a xs → DnA K H xs ds → Dn K H (.ref a) (.lst ds)
  | tup {a : Addr} {xs : List V} {ds : List D} (sq : SqT K H a xs) (da : DnA K H xs ds) (raw : H a = some (.tup xs) := by first | exact upd_same | assumption) : Dn K H (.ref a) (.tup ds)
  | dic {a : Addr} {kvs : List (Key × V)} {ks : List Key} {ds : List D} : H a = some (.dK kvs) → kvs.map (·.1) = ks → DnA K H (kvs.map (·.2)) ds → Dn K H (.ref a) (.dic ks ds)
  | dit {a : Addr} {kvs : List (List Key × V)} {ks : List (List Key)} {ds : List D} : H a = some (.dT kvs) → kvs.map (·.1) = ks → DnA K H (kvs.map (·.2)) ds → Dn K H (.ref a) (.dit ks ds)
  | ins {a C dx : Addr} {fs : List (Str × V)} {ns : List Str} {ds : List D} : InC K C → H a = some (.ins C dx fs) → fs.map (·.1) = ns → DnA K H (fs.map (·.2)) ds → Dn K H (.ref a) (.ins C ns ds)
  | exc {a C : Addr} {d : Option Addr} {fs : List (Str × V)} {ns : List Str} {ds : List D} : ExcC K C → NoTy K C → H a = some (ExT C d a) → (d = none ∧ fs = [] ∨ ∃ dd, d = some dd ∧ fs ≠ [] ∧ H dd = some (.xd fs)) → fs.map (·.1) = ns → DnA K H (fs.map (·.2)) ds → Dn K H (.ref a) (.exc C ns ds)
inductive DnA (K : PySem.W.Frag) (H : Hp) : List V → List D → Prop
  | nil : DnA K H [] []
  | cons {v : V} {vs : List V} {d : D} {ds : List D} : Dn K H v d → DnA K H vs ds → DnA K H (v :: vs) (d :: ds)
end

section
variable {K : PySem.W.Frag} {H H' : Hp}
mutual
theorem Dn.mono (e : Ex H H') : ∀ (d : D) {v : V}, Dn K H v d → Dn K H' v d
  | .non, _, h => by cases h; exact .non
  | .bl b, _, h => by cases h; exact .bl b
  | .int i, _, h => by cases h; exact .int i
  | .str x, _, h => by cases h; exact .str x
  | .fnv f, _, h => by cases h; exact .fnv f
  | .lam F, _, h => by
    cases h with
    | lam h1 h2 => exact .lam (e _ _ h1) (e _ _ h2)
  | .lst ds, _, h => by
    cases h with
    | lst h1 h2 => exact .lst (ex_l e h1) (DnA.mono e ds h2)
  | .tup ds, _, h => by
    cases h with
    | tup h1 h2 hr => exact .tup (ex_t e h1) (DnA.mono e ds h2) (e _ _ hr)
  | .dic ks ds, _, h => by
    cases h with
    | dic h1 h2 h3 => exact .dic (e _ _ h1) h2 (DnA.mono e ds h3)
  | .dit ks ds, _, h => by
    cases h with
    | dit h1 h2 h3 => exact .dit (e _ _ h1) h2 (DnA.mono e ds h3)
  | .ins C ns ds, _, h => by
    cases h with
    | ins hc h1 h2 h3 => exact .ins hc (e _ _ h1) h2 (DnA.mono e ds h3)
  | .exc C ns ds, _, h => by
    cases h with
    | exc hc ht h1 h0 h2 h3 =>
      refine .exc hc ht (e _ _ h1) ?_ h2 (DnA.mono e ds h3)
      rcases h0 with h0 | ⟨dd, h0, hne, h4⟩
      · exact .inl h0
      · exact .inr ⟨dd, h0, hne, e _ _ h4⟩
theorem DnA.mono (e : Ex H H') : ∀ (ds : List D) {vs : List V}, DnA K H vs ds → DnA K H' vs ds
  | [], _, h => by cases h; exact .nil
  | d :: ds, _, h => by
    cases h with
    | cons h1 h2 => exact .cons (Dn.mono e d h1) (DnA.mono e ds h2)
end
theorem Dn.up (e : Ex H H') {v : V} {d : D} (h : Dn K H v d) : Dn K H' v d := Dn.mono e d h
theorem DnA.up (e : Ex H H') {vs : List V} {ds : List D} (h : DnA K H vs ds) : DnA K H' vs ds := DnA.mono e ds h
theorem DnA.len : ∀ {vs : List V} {ds : List D}, DnA K H vs ds → vs.length = ds.length
  | [], _, h => by cases h; rfl
  | _ :: _, _, h => by
    cases h with
    | cons h1 h2 => rw [List.length_cons, List.length_cons, DnA.len h2]
theorem DnA.get : ∀ {vs : List V} {ds : List D} {i : Nat} {d : D}, DnA K H vs ds → ds[i]? = some d → ∃ v, vs[i]? = some v ∧ Dn K H v d
  | [], _, i, d, h, e => by cases h; simp at e
  | v :: vs, _, 0, d, h, e => by
    cases h with
    | cons h1 h2 =>
      simp at e
      subst e
      exact ⟨v, rfl, h1⟩
  | v :: vs, _, i + 1, d, h, e => by
    cases h with
    | cons h1 h2 =>
      obtain ⟨w, e1, e2⟩ := DnA.get (i := i) h2 (by simpa using e)
      exact ⟨w, by simpa using e1, e2⟩
theorem DnA.app : ∀ {vs us : List V} {ds es : List D}, DnA K H vs ds → DnA K H us es → DnA K H (vs ++ us) (ds ++ es)
  | [], _, _, _, h, g => by cases h; exact g
  | _ :: _, _, _, _, h, g => by
    cases h with
    | cons h1 h2 => exact .cons h1 (DnA.app h2 g)
theorem DnA.take : ∀ {vs : List V} {ds : List D} (n : Nat), DnA K H vs ds → DnA K H (vs.take n) (ds.take n)
  | _, _, 0, _ => by simp; exact .nil
  | [], _, n + 1, h => by cases h; exact .nil
  | _ :: _, _, n + 1, h => by
    cases h with
    | cons h1 h2 => exact .cons h1 (DnA.take n h2)
theorem DnA.drop : ∀ {vs : List V} {ds : List D} (n : Nat), DnA K H vs ds → DnA K H (vs.drop n) (ds.drop n)
  | _, _, 0, h => by simpa using h
  | [], _, n + 1, h => by cases h; exact .nil
  | _ :: _, _, n + 1, h => by
    cases h with
    | cons h1 h2 => exact DnA.drop n h2
theorem DnA.one {v : V} {d : D} (h : Dn K H v d) : DnA K H [v] [d] := .cons h .nil
theorem DnA.ints : ∀ (ns : List Int), DnA K H (ns.map V.int) (ns.map D.int)
  | [] => .nil
  | n :: ns => .cons (.int n) (DnA.ints ns)
end

/-! ### the source of draws, the tables of code, what is frozen -/
abbrev Tb := List (Addr × Str)
/-- the two objects that a draw changes -/
structure SA where
  a : Addr
  l : Addr
  c : Addr
  cs : List Int
abbrev LIM : Nat := 2 ^ 40
def kLarge : Key := .inr "large"
def kCells : Key := .inr "cells"
def kLeft : Key := .inr "left"
def kTurn : Key := .inr "turn"
/-- the source of draws stands; at most n draws were made -/
def StOk (K : PySem.W.Frag) (S : SA) (Hb H : Hp) (n : Nat) : Prop :=
  Hb S.a = none ∧ Hb S.l = none ∧ ∃ (ls cs : List Int) (m : Int) (t : Nat), S.c ≠ S.l ∧ S.c ≠ S.a ∧ S.a ≠ S.l ∧
    H S.a = some (.dK [(kLarge, .ref S.l), (kCells, .ref S.c), (kLeft, .int m), (kTurn, .int t)]) ∧ H S.l = some (.lst (ls.map V.int)) ∧ Hb S.c = some (.lst (cs.map V.int)) ∧
    (∀ x ∈ ls, 0 ≤ x) ∧ (∀ x ∈ cs, 0 ≤ x) ∧ 0 ≤ m ∧ t ≤ n ∧ ls.length ≤ 63 ∧ cs.length ≤ 63 ∧ cs = S.cs

/-- nothing lies at p, or a table of code -/
def Fresh (H : Hp) (p : Addr) : Prop := ∀ o, H p = some o → ∃ ps, o = .tbl ps
theorem fresh_none {H : Hp} {p : Addr} (h : H p = none) : Fresh H p := fun o e => by rw [h] at e; cases e
/-- an object that is no table of code -/
def Obn (H : Hp) (p : Addr) : Prop := ∃ o, H p = some o ∧ ∀ ps, o ≠ .tbl ps
theorem Fresh.ne {H : Hp} {p b : Addr} {o : HO} (f : Fresh H p) (h : H b = some o) (ho : ∀ ps, o ≠ .tbl ps) : b ≠ p := fun e => by
  subst e
  obtain ⟨ps, z⟩ := f _ h
  exact ho ps z
theorem Obn.ne {H : Hp} {p b : Addr} (w : Obn H b) (f : Fresh H p) : p ≠ b := by
  obtain ⟨o, h, ho⟩ := w
  exact (f.ne h ho).symm
theorem Obn.upd {H : Hp} {p b : Addr} {o : HO} (w : Obn H b) (ho : ∀ ps, o ≠ .tbl ps) : Obn (L2.upd H p o) b := by
  obtain ⟨u, h, hu⟩ := w
  by_cases e : b = p
  · exact ⟨o, by rw [e, upd_same], ho⟩
  · exact ⟨u, by rw [upd_ne e]; exact h, hu⟩
structure World (T : Tb) (S : SA) (Hb H : Hp) : Prop where
  ex : Ex Hb H
  tabs : LamX.Tabs T H
  tb : ∀ p ∈ T, Hb p.1 = none
  sa : Obn H S.a
  sl : Obn H S.l
  sc : Obn H S.c
  nt : ∀ b ps, Hb b ≠ some (.tbl ps)
theorem nt_upd {Hb : Hp} {p : Addr} {o : HO} (h : ∀ b ps, Hb b ≠ some (.tbl ps)) (ho : ∀ ps, o ≠ .tbl ps) : ∀ b ps, upd Hb p o b ≠ some (.tbl ps) := fun b ps z => by
  by_cases e : b = p
  · rw [e, upd_same] at z
    exact ho ps (Option.some.inj z)
  · rw [upd_ne e] at z
    exact h b ps z
/-- a step of the run: what is frozen stays and may grow, the source of draws stands, what is no one's business stays -/
structure Stp (K : PySem.W.Frag) (T : Tb) (S : SA) (Hb H : Hp) (n : Nat) (Hb' H' : Hp) (n' : Nat) : Prop where
  ex : Ex Hb Hb'
  wd : World T S Hb' H'
  st : StOk K S Hb H n → StOk K S Hb' H' n'
  own0 : ∀ p o, H p = some o → Hb p = none → p ≠ S.a → p ≠ S.l → (∀ ps, o ≠ .tbl ps) → H' p = some o ∧ (Hb' p = none ∨ Hb' p = some o ∧ ∃ q, o = LamX.CodeO p q)
  dm : ∀ p, Fresh H' p → Fresh H p
/-- what is no code object is not frozen by a step -/
theorem Stp.own {K : PySem.W.Frag} {T : Tb} {S : SA} {Hb H Hb' H' : Hp} {n n' : Nat} (s : Stp K T S Hb H n Hb' H' n') (p : Addr) (o : HO) (h1 : H p = some o) (h2 : Hb p = none) (h3 : p ≠ S.a) (h4 : p ≠ S.l) (h5 : ∀ ps, o ≠ .tbl ps)
    (h6 : ∀ q, o ≠ LamX.CodeO p q := by intro q z; unfold LamX.CodeO at z; cases z) : H' p = some o ∧ Hb' p = none := by
  obtain ⟨g1, g2⟩ := s.own0 p o h1 h2 h3 h4 h5
  rcases g2 with g2 | ⟨_, q, z⟩
  · exact ⟨g1, g2⟩
  · exact absurd z (h6 q)
theorem dm_upd {H : Hp} {p : Addr} {o : HO} (ho : ∀ ps, o ≠ .tbl ps) : ∀ q, Fresh (upd H p o) q → Fresh H q := fun q h u e => by
  by_cases z : q = p
  · obtain ⟨ps, y⟩ := h o (by rw [z, upd_same])
    exact (ho ps y).elim
  · exact h u (by rw [upd_ne z]; exact e)
section
variable {K : PySem.W.Frag} {T : Tb} {S : SA} {Hb H Hb1 H1 Hb2 H2 : Hp} {n n1 n2 : Nat} {p : Addr} {o : HO}
theorem Stp.refl (w : World T S Hb H) : Stp K T S Hb H n Hb H n := ⟨Ex.refl _, w, fun h => h, fun _ _ h1 h2 _ _ _ => ⟨h1, .inl h2⟩, fun _ h => h⟩
theorem Stp.trans (a : Stp K T S Hb H n Hb1 H1 n1) (b : Stp K T S Hb1 H1 n1 Hb2 H2 n2) : Stp K T S Hb H n Hb2 H2 n2 :=
  ⟨a.ex.trans b.ex, b.wd, fun h => b.st (a.st h), fun p o h1 h2 h3 h4 h5 => by
    obtain ⟨g1, g2⟩ := a.own0 p o h1 h2 h3 h4 h5
    rcases g2 with g2 | ⟨g2, q, z⟩
    · exact b.own0 p o g1 g2 h3 h4 h5
    · exact ⟨b.wd.ex _ _ (b.ex _ _ g2), .inr ⟨b.ex _ _ g2, q, z⟩⟩, fun p h => a.dm p (b.dm p h)⟩
theorem ex_upd (e : Ex Hb H) (h : H p = none) : Ex (upd Hb p o) (upd H p o) := fun b u q => by
  by_cases hb : b = p
  · subst hb; rw [upd_same] at q ⊢; exact q
  · rw [upd_ne hb] at q ⊢; exact e b u q
theorem free_of (e : Ex Hb H) (h : H p = none) : Hb p = none := Evl.fresh_back e h
theorem World.ne (w : World T S Hb H) (h : H p = none) {q : Addr × Str} (hq : q ∈ T) : q.1 ≠ p := by
  obtain ⟨ps, e, _⟩ := w.tabs q hq
  exact ne_of_none e h
theorem StOk.keep (k : ∀ b u, H b = some u → H1 b = some u) (kb : Ex Hb Hb1) (ka : Hb1 S.a = none) (kl : Hb1 S.l = none) (hn : n ≤ n1) (h : StOk K S Hb H n) : StOk K S Hb1 H1 n1 := by
  obtain ⟨_, _, ls, cs, m, t, h0, h1, h2, h3, h4, h5, h6, h7, h8, h9, h10⟩ := h
  exact ⟨ka, kl, ls, cs, m, t, h0, h1, h2, k _ _ h3, k _ _ h4, kb _ _ h5, h6, h7, h8, Nat.le_trans h9 hn, h10⟩
/-- a new object, frozen at once -/
theorem Stp.new (w : World T S Hb H) (hp : H p = none) (ho : ∀ ps, o ≠ .tbl ps := by intro _ z; cases z) : Stp K T S Hb H n (upd Hb p o) (upd H p o) n where
  ex := Ex.new (free_of w.ex hp)
  wd := ⟨ex_upd w.ex hp, fun q hq => (w.tabs q hq).ext (Ex.new hp), fun q hq => by rw [upd_ne (w.ne hp hq)]; exact w.tb q hq, w.sa.upd ho, w.sl.upd ho, w.sc.upd ho, nt_upd w.nt ho⟩
  st := fun h => by
    have ha : S.a ≠ p := by
      obtain ⟨_, _, ls, cs, m, t, _, _, _, h3, h4, _⟩ := h
      exact ne_of_none h3 hp
    have hl : S.l ≠ p := by
      obtain ⟨_, _, ls, cs, m, t, _, _, _, h3, h4, _⟩ := h
      exact ne_of_none h4 hp
    exact h.keep (Ex.new hp) (Ex.new (free_of w.ex hp)) (by rw [upd_ne ha]; exact h.1) (by rw [upd_ne hl]; exact h.2.1) (Nat.le_refl _)
  own0 := fun q u h1 h2 _ _ _ => by
    have hq : q ≠ p := ne_of_none h1 hp
    rw [upd_ne hq, upd_ne hq]
    exact ⟨h1, .inl h2⟩
  dm := dm_upd ho
/-- a new object, not frozen -/
theorem Stp.newO (w : World T S Hb H) (hp : H p = none) (ho : ∀ ps, o ≠ .tbl ps := by intro _ z; cases z) : Stp K T S Hb H n Hb (upd H p o) n where
  ex := Ex.refl _
  wd := ⟨w.ex.trans (Ex.new hp), fun q hq => (w.tabs q hq).ext (Ex.new hp), w.tb, w.sa.upd ho, w.sl.upd ho, w.sc.upd ho, w.nt⟩
  st := fun h => h.keep (Ex.new hp) (Ex.refl _) h.1 h.2.1 (Nat.le_refl _)
  own0 := fun q u h1 h2 _ _ _ => by
    have hq : q ≠ p := ne_of_none h1 hp
    rw [upd_ne hq]
    exact ⟨h1, .inl h2⟩
  dm := dm_upd ho
theorem Stp.le (w : World T S Hb H) (h : n ≤ n1) : Stp K T S Hb H n Hb H n1 := ⟨Ex.refl _, w, fun s => s.keep (fun _ _ q => q) (Ex.refl _) s.1 s.2.1 h, fun _ _ h1 h2 _ _ _ => ⟨h1, .inl h2⟩, fun _ h => h⟩
/-- an object of code is frozen -/
theorem Stp.code {q : Str} (w : World T S Hb H) (hc : H p = some (LamX.CodeO p q)) (hb : Hb p = none) (ha : H S.a ≠ some (LamX.CodeO S.a q)) (hl : H S.l ≠ some (LamX.CodeO S.l q)) : Stp K T S Hb H n (upd Hb p (LamX.CodeO p q)) H n := by
  have no : ∀ ps, LamX.CodeO p q ≠ .tbl ps := fun ps z => by
    unfold LamX.CodeO at z
    cases z
  have ex : Ex Hb (upd Hb p (LamX.CodeO p q)) := Ex.new hb
  have pa : S.a ≠ p := fun z => ha (by rw [z]; exact hc)
  have pl : S.l ≠ p := fun z => hl (by rw [z]; exact hc)
  refine ⟨ex, ⟨fun b u e => ?_, w.tabs, fun x hx => ?_, w.sa, w.sl, w.sc, nt_upd w.nt no⟩, fun h => h.keep (fun _ _ e => e) ex (by rw [upd_ne pa]; exact h.1) (by rw [upd_ne pl]; exact h.2.1) (Nat.le_refl _), fun b u e1 e2 _ _ _ => ?_, fun _ h => h⟩
  · by_cases z : b = p
    · subst z
      rw [upd_same] at e
      rw [← Option.some.inj e]
      exact hc
    · rw [upd_ne z] at e
      exact w.ex b u e
  · have z : x.1 ≠ p := fun z => by
      obtain ⟨ps, e, _⟩ := w.tabs x hx
      rw [z, hc] at e
      exact no ps (Option.some.inj e)
    rw [upd_ne z]
    exact w.tb x hx
  · by_cases z : b = p
    · subst z
      rw [hc] at e1
      rw [upd_same, ← Option.some.inj e1]
      exact ⟨hc, .inr ⟨rfl, q, rfl⟩⟩
    · rw [upd_ne z]
      exact ⟨e1, .inl e2⟩
end
end DL

/-! what a reading does to data -/
namespace DL
open L2 PySem PySem.Spec PyProof.Rows
open Evl (Ex ex_l ex_t sz_of)

/-- what a slot (or an argument) holds: nothing known, data, the source of draws, a list of one's own -/
inductive SV where
  | no | d (x : D) | st | ol (xs : List D) | me (x C : Addr) (ns : List Str) (ds : List D) | od (ks : List Key) (ds : List D) | ot (ks : List (List Key)) (ds : List D) | fv (F : FV)
/-- a list or an object of one's own -/
def isOwn : SV → Bool
  | .ol _ => true
  | .me _ _ _ _ => true
  | .od _ _ => true
  | .ot _ _ => true
  | _ => false
section
variable (K : PySem.W.Frag) (S : SA) (Hb H : Hp) (n : Nat)
def SlotOk : SV → Option V → Prop
  | .no, _ => True
  | .d x, o => ∃ v, o = some v ∧ Dn K Hb v x
  | .st, o => o = some (.ref S.a) ∧ StOk K S Hb H n
  | .ol xs, o => ∃ p vs, o = some (.ref p) ∧ H p = some (.lst vs) ∧ Hb p = none ∧ p ≠ S.a ∧ p ≠ S.l ∧ p ≠ S.c ∧ DnA K Hb vs xs
  | .me x C ns ds, o => o = some (.ref x) ∧ ∃ dx fs, H x = some (.ins C dx fs) ∧ Hb x = none ∧ x ≠ S.a ∧ x ≠ S.l ∧ x ≠ S.c ∧ fs.map (·.1) = ns ∧ DnA K Hb (fs.map (·.2)) ds
  | .od ks ds, o => ∃ p kvs, o = some (.ref p) ∧ H p = some (.dK kvs) ∧ Hb p = none ∧ p ≠ S.a ∧ p ≠ S.l ∧ p ≠ S.c ∧ kvs.map (·.1) = ks ∧ DnA K Hb (kvs.map (·.2)) ds
  | .ot ks ds, o => ∃ p kvs, o = some (.ref p) ∧ H p = some (.dT kvs) ∧ Hb p = none ∧ p ≠ S.a ∧ p ≠ S.l ∧ p ≠ S.c ∧ kvs.map (·.1) = ks ∧ DnA K Hb (kvs.map (·.2)) ds
  | .fv F, o => ∃ f c, o = some (.ref f) ∧ Hb f = some (LamV F c f) ∧ H c = some (LamX.CodeO c F.q) ∧ (∀ o, Hb c = some o → o = LamX.CodeO c F.q) ∧ c ≠ S.a ∧ c ≠ S.l
structure Slots (ρ : List SV) (σ : L2.St) : Prop where
  len : ρ.length = σ.length
  ok : ∀ (i : Nat) (s : SV), ρ[i]? = some s → ∃ o : Option V, σ[i]? = some o ∧ SlotOk K S Hb H n s o
  ap : ∀ (i j : Nat) (p : Addr) (xs ys : List D), i ≠ j → ρ[i]? = some (.ol xs) → ρ[j]? = some (.ol ys) → σ[i]? = some (some (.ref p)) → σ[j]? = some (some (.ref p)) → False
inductive Args : List SV → List V → Prop
  | nil : Args [] []
  | cons {s : SV} {v : V} {ss : List SV} {vs : List V} : SlotOk K S Hb H n s (some v) → Args ss vs → Args (s :: ss) (v :: vs)
end
abbrev DQ := D → Nat → Prop
abbrev DX := Addr → List Str → List D → Nat → Prop
abbrev DT := List SV → Nat → DQ → DX → Prop
abbrev DTA := List SV → Nat → (List SV → Nat → Prop) → DX → Prop
abbrev DTT := List SV → Nat → (Bool → Nat → Prop) → DX → Prop
abbrev DSp := List SV → Nat → DQ → DX → Prop

section
variable {K : PySem.W.Frag} {T : Tb} {S : SA} {Hb H Hb1 H1 Hb2 H2 : Hp} {n n1 n2 : Nat}
theorem SlotOk.step {s : SV} {o : Option V} (a : Stp K T S Hb H n Hb1 H1 n1) (h : SlotOk K S Hb H n s o) : SlotOk K S Hb1 H1 n1 s o := by
  cases s with
  | no => trivial
  | d x =>
    obtain ⟨v, e, h⟩ := h
    exact ⟨v, e, h.up a.ex⟩
  | st => exact ⟨h.1, a.st h.2⟩
  | ol xs =>
    obtain ⟨p, vs, e, h1, h2, h3, h4, hc, h5⟩ := h
    obtain ⟨g1, g2⟩ := a.own p _ h1 h2 h3 h4 (fun ps z => by cases z)
    exact ⟨p, vs, e, g1, g2, h3, h4, hc, h5.up a.ex⟩
  | me x C ns ds =>
    obtain ⟨e, dx, fs, h1, h2, h3, h4, hc, h5, h6⟩ := h
    obtain ⟨g1, g2⟩ := a.own x _ h1 h2 h3 h4 (fun ps z => by cases z)
    exact ⟨e, dx, fs, g1, g2, h3, h4, hc, h5, h6.up a.ex⟩
  | od ks ds =>
    obtain ⟨p, kvs, e, h1, h2, h3, h4, hc, h5, h6⟩ := h
    obtain ⟨g1, g2⟩ := a.own p _ h1 h2 h3 h4 (fun ps z => by cases z)
    exact ⟨p, kvs, e, g1, g2, h3, h4, hc, h5, h6.up a.ex⟩
  | ot ks ds =>
    obtain ⟨p, kvs, e, h1, h2, h3, h4, hc, h5, h6⟩ := h
    obtain ⟨g1, g2⟩ := a.own p _ h1 h2 h3 h4 (fun ps z => by cases z)
    exact ⟨p, kvs, e, g1, g2, h3, h4, hc, h5, h6.up a.ex⟩
  | fv F =>
    obtain ⟨f, c, e, h1, h2, h2b, h3, h4⟩ := h
    have no : ∀ ps, LamX.CodeO c F.q ≠ .tbl ps := fun ps z => by
      unfold LamX.CodeO at z
      cases z
    cases hc : Hb c with
    | none =>
      obtain ⟨g1, g2⟩ := a.own0 c _ h2 hc h3 h4 no
      exact ⟨f, c, e, a.ex _ _ h1, g1, (fun o z => by
        rcases g2 with g2 | ⟨g2, _⟩
        · rw [g2] at z; cases z
        · rw [g2] at z; exact (Option.some.inj z).symm), h3, h4⟩
    | some o =>
      have z := h2b o hc
      subst z
      have g := a.ex _ _ hc
      exact ⟨f, c, e, a.ex _ _ h1, a.wd.ex _ _ g, (fun o z => by rw [g] at z; exact (Option.some.inj z).symm), h3, h4⟩
theorem Slots.step {ρ : List SV} {σ : L2.St} (a : Stp K T S Hb H n Hb1 H1 n1) (h : Slots K S Hb H n ρ σ) : Slots K S Hb1 H1 n1 ρ σ :=
  ⟨h.len, fun i s e => let ⟨o, e1, e2⟩ := h.ok i s e; ⟨o, e1, e2.step a⟩, h.ap⟩
theorem Args.step {ss : List SV} {vs : List V} (a : Stp K T S Hb H n Hb1 H1 n1) (h : Args K S Hb H n ss vs) : Args K S Hb1 H1 n1 ss vs := by
  induction h with
  | nil => exact .nil
  | cons h _ ih => exact .cons (h.step a) ih
theorem Args.len {ss : List SV} {vs : List V} (h : Args K S Hb H n ss vs) : ss.length = vs.length := by
  induction h with
  | nil => rfl
  | cons _ _ ih => simp [ih]
end

/-- what is wanted of a value, of a Bool, of arguments, of an exception, behind a step from here -/
def VOk (K : PySem.W.Frag) (T : Tb) (S : SA) (Hb H : Hp) (n : Nat) (P : DQ) (Q : VK) : Prop :=
  ∀ d v n' Hb' H', Stp K T S Hb H n Hb' H' n' → Dn K Hb' v d → P d n' → Q v H'
def BOk (K : PySem.W.Frag) (T : Tb) (S : SA) (Hb H : Hp) (n : Nat) (P : Bool → Nat → Prop) (Q : Bool → Hp → Prop) : Prop :=
  ∀ b n' Hb' H', Stp K T S Hb H n Hb' H' n' → P b n' → Q b H'
def AOk (K : PySem.W.Frag) (T : Tb) (S : SA) (Hb H : Hp) (n : Nat) (P : List SV → Nat → Prop) (Q : List V → Hp → Prop) : Prop :=
  ∀ ss vs n' Hb' H', Stp K T S Hb H n Hb' H' n' → Args K S Hb' H' n' ss vs → P ss n' → Q vs H'
def ExD (K : PySem.W.Frag) (Hb : Hp) (od : Option Addr) (ns : List Str) (ds : List D) : Prop :=
  ∃ fs : List (Str × V), (od = none ∧ fs = [] ∨ ∃ dd, od = some dd ∧ fs ≠ [] ∧ Hb dd = some (.xd fs)) ∧ fs.map (·.1) = ns ∧ DnA K Hb (fs.map (·.2)) ds
def XOk (K : PySem.W.Frag) (T : Tb) (S : SA) (Hb H : Hp) (n : Nat) (XP : DX) (E : XK) : Prop :=
  ∀ C ns ds n' od Hb' H', Stp K T S Hb H n Hb' H' n' → ExD K Hb' od ns ds → XP C ns ds n' → E (.ref C) od H'

def Rd (K : PySem.W.Frag) (T : Tb) (S : SA) (E : XK) (te : TE) (F : DT) : Prop :=
  ∀ σ ρ Hb H n P XP Q, World T S Hb H → Slots K S Hb H n ρ σ → F ρ n P XP → VOk K T S Hb H n P Q → XOk K T S Hb H n XP E → te σ H Q
def RdT (K : PySem.W.Frag) (T : Tb) (S : SA) (E : XK) (tt : TT) (F : DTT) : Prop :=
  ∀ σ ρ Hb H n P XP Q, World T S Hb H → Slots K S Hb H n ρ σ → F ρ n P XP → BOk K T S Hb H n P Q → XOk K T S Hb H n XP E → tt σ H Q
def RdA (K : PySem.W.Frag) (T : Tb) (S : SA) (E : XK) (ta : TA) (F : DTA) : Prop :=
  ∀ σ ρ Hb H n P XP Q, World T S Hb H → Slots K S Hb H n ρ σ → F ρ n P XP → AOk K T S Hb H n P Q → XOk K T S Hb H n XP E → ta σ H Q

/-- a def's promise by data -/
def spOf (K : PySem.W.Frag) (T : Tb) (DS : DSp) : Sp := fun vs H Q E => ∃ S Hb n ss P XP, World T S Hb H ∧ Args K S Hb H n ss vs ∧ DS ss n P XP ∧ VOk K T S Hb H n P Q ∧ XOk K T S Hb H n XP E

section
variable {K : PySem.W.Frag} {T : Tb} {S : SA} {E : XK} {Hb H Hb1 H1 : Hp} {n n1 : Nat} {P : DQ} {XP : DX} {Q : VK}
theorem VOk.step (a : Stp K T S Hb H n Hb1 H1 n1) (h : VOk K T S Hb H n P Q) : VOk K T S Hb1 H1 n1 P Q := fun d v n' Hb' H' s => h d v n' Hb' H' (a.trans s)
theorem XOk.step (a : Stp K T S Hb H n Hb1 H1 n1) (h : XOk K T S Hb H n XP E) : XOk K T S Hb1 H1 n1 XP E := fun C ns ds n' od Hb' H' s => h C ns ds n' od Hb' H' (a.trans s)
theorem VOk.now {v : V} {d : D} (h : VOk K T S Hb H n P Q) (w : World T S Hb H) (hv : Dn K Hb v d) (p : P d n) : Q v H := h d v n Hb H (.refl w) hv p
theorem VOk.new {d : D} {p : Addr} {o : HO} (h : VOk K T S Hb H n P Q) (w : World T S Hb H) (hp : H p = none) (hv : Dn K (upd Hb p o) (.ref p) d) (q : P d n) (ho : ∀ ps, o ≠ .tbl ps := by intro _ z; cases z) : Q (.ref p) (upd H p o) := h d _ n _ _ (.new w hp ho) hv q
def xF : DX := fun _ _ _ _ => False
theorem XOk.none {E : XK} : XOk K T S Hb H n xF E := fun _ _ _ _ _ _ _ _ _ h => h.elim
end

/-! ### names, constants -/
def slotD (ρ : List SV) (i : Nat) (k : D → Prop) : Prop := match ρ[i]? with
  | some (.d x) => k x
  | _ => False
def xVar (i : Nat) : DT := fun ρ n P _ => slotD ρ i fun x => P x n
def xC (d : D) : DT := fun _ n P _ => P d n
section
variable {K : PySem.W.Frag} {T : Tb} {S : SA} {E : XK}
theorem Slots.dat {Hb H : Hp} {n : Nat} {ρ : List SV} {σ : L2.St} {i : Nat} {k : D → Prop} (sl : Slots K S Hb H n ρ σ) (h : slotD ρ i k) : ∃ v d, σ[i]? = some (some v) ∧ Dn K Hb v d ∧ k d := by
  unfold slotD at h
  cases e : ρ[i]? with
  | none => rw [e] at h; exact h.elim
  | some s =>
    rw [e] at h
    cases s with
    | d x =>
      obtain ⟨o, e1, v, e2, e3⟩ := sl.ok i _ e
      exact ⟨v, x, by rw [e1, e2], e3, h⟩
    | no => exact h.elim
    | st => exact h.elim
    | ol xs => exact h.elim
    | me _ _ _ _ => exact h.elim
    | od _ _ => exact h.elim
    | ot _ _ => exact h.elim
    | fv _ => exact h.elim
theorem rd_var {i : Nat} : Rd K T S E (tVar i) (xVar i) := fun σ ρ Hb H n P XP Q w sl h q _ => by
  obtain ⟨v, d, e, hd, p⟩ := sl.dat h
  exact ⟨v, e, q.now w hd p⟩
theorem rd_int {i : Int} : Rd K T S E (tC (.int i)) (xC (.int i)) := fun σ ρ Hb H n P XP Q w sl h q _ => q.now w (.int i) h
theorem rd_bl {i : Bool} : Rd K T S E (tC (.bl i)) (xC (.bl i)) := fun σ ρ Hb H n P XP Q w sl h q _ => q.now w (.bl i) h
theorem rd_str {i : Str} : Rd K T S E (tC (.str i)) (xC (.str i)) := fun σ ρ Hb H n P XP Q w sl h q _ => q.now w (.str i) h
theorem rd_non : Rd K T S E (tC .non) (xC .non) := fun σ ρ Hb H n P XP Q w sl h q _ => q.now w .non h

/-! ### arguments -/
def xaNil : DTA := fun _ n P _ => P [] n
def xaCons (F : DT) (G : DTA) : DTA := fun ρ n P XP => F ρ n (fun d n1 => G ρ n1 (fun ss n2 => P (.d d :: ss) n2) XP) XP
def xaSt (i : Nat) (G : DTA) : DTA := fun ρ n P XP => ρ[i]? = some .st ∧ G ρ n (fun ss n2 => P (.st :: ss) n2) XP
theorem rda_nil : RdA K T S E tNil xaNil := fun σ ρ Hb H n P XP Q w sl h q _ => q [] [] n Hb H (.refl w) .nil h
theorem rda_cons {te : TE} {ta : TA} {F : DT} {G : DTA} (h1 : Rd K T S E te F) (h2 : RdA K T S E ta G) : RdA K T S E (tCons te ta) (xaCons F G) := fun σ ρ Hb H n P XP Q w sl h q x =>
  h1 σ ρ Hb H n _ XP _ w sl h (fun d v n1 Hb1 H1 s hd p => h2 σ ρ Hb1 H1 n1 _ XP _ s.wd (sl.step s) p (fun ss vs n2 Hb2 H2 s2 ha p2 => q _ _ n2 Hb2 H2 (s.trans s2) (.cons (s := .d d) ⟨v, rfl, hd.up s2.ex⟩ ha) p2) (x.step s)) x
theorem rda_st {i : Nat} {ta : TA} {G : DTA} (h2 : RdA K T S E ta G) : RdA K T S E (tCons (tVar i) ta) (xaSt i G) := fun σ ρ Hb H n P XP Q w sl h q x => by
  obtain ⟨e, h⟩ := h
  obtain ⟨o, e1, e2, e3⟩ := sl.ok i _ e
  refine ⟨.ref S.a, by rw [e1, e2], ?_⟩
  exact h2 σ ρ Hb H n _ XP _ w sl h (fun ss vs n2 Hb2 H2 s2 ha p2 => q _ _ n2 Hb2 H2 s2 (.cons (s := .st) ⟨rfl, s2.st e3⟩ ha) p2) x

/-! ### calls of defs -/
/-! ### operators by values -/
/-- an operator on data: where it may stand, what it yields -/
def Op2 (K : PySem.W.Frag) (r : R2) (f : D → D → (D → Prop) → Prop) : Prop :=
  ∀ {T : Tb} {S : SA} {x y : V} {a b : D} {Hb H : Hp} {n : Nat} {P : DQ} {Q : VK}, World T S Hb H → Dn K Hb x a → Dn K Hb y b → f a b (fun d => P d n) → VOk K T S Hb H n P Q → r x y H Q
def xOp (f : D → D → (D → Prop) → Prop) (F G : DT) : DT := fun ρ n P XP => F ρ n (fun a n1 => G ρ n1 (fun b n2 => f a b fun d => P d n2) XP) XP
theorem rd_op {r : R2} {f : D → D → (D → Prop) → Prop} {ta tb : TE} {F G : DT} (ho : Op2 K r f) (h1 : Rd K T S E ta F) (h2 : Rd K T S E tb G) : Rd K T S E (tOp r ta tb) (xOp f F G) := fun σ ρ Hb H n P XP Q w sl h q x =>
  h1 σ ρ Hb H n _ XP _ w sl h (fun d v n1 Hb1 H1 s hd p => h2 σ ρ Hb1 H1 n1 _ XP _ s.wd (sl.step s) p (fun e u n2 Hb2 H2 s2 he p2 => ho s2.wd (hd.up s2.ex) he p2 ((q.step s).step s2)) (x.step s)) x
def Op1 (K : PySem.W.Frag) (r : V → Hp → VK → Prop) (f : D → (D → Prop) → Prop) : Prop :=
  ∀ {T : Tb} {S : SA} {x : V} {a : D} {Hb H : Hp} {n : Nat} {P : DQ} {Q : VK}, World T S Hb H → Dn K Hb x a → f a (fun d => P d n) → VOk K T S Hb H n P Q → r x H Q
def xUn (f : D → (D → Prop) → Prop) (F : DT) : DT := fun ρ n P XP => F ρ n (fun a n1 => f a fun d => P d n1) XP
theorem rd_un {r : V → Hp → VK → Prop} {f : D → (D → Prop) → Prop} {ta : TE} {F : DT} (ho : Op1 K r f) (h1 : Rd K T S E ta F) : Rd K T S E (tUn r ta) (xUn f F) := fun σ ρ Hb H n P XP Q w sl h q x =>
  h1 σ ρ Hb H n _ XP _ w sl h (fun d v n1 Hb1 H1 s hd p => ho s.wd hd p (q.step s)) x
/-- a built-in's call on data -/
def Cal (K : PySem.W.Frag) (r : List V → Hp → VK → Prop) (f : List SV → (D → Prop) → Prop) : Prop :=
  ∀ {T : Tb} {S : SA} {vs : List V} {ss : List SV} {Hb H : Hp} {n : Nat} {P : DQ} {Q : VK}, World T S Hb H → Args K S Hb H n ss vs → f ss (fun d => P d n) → VOk K T S Hb H n P Q → r vs H Q
def xCB (f : List SV → (D → Prop) → Prop) (G : DTA) : DT := fun ρ n P XP => G ρ n (fun ss n1 => f ss fun d => P d n1) XP
theorem rd_cb {r : List V → Hp → VK → Prop} {f : List SV → (D → Prop) → Prop} {ta : TA} {G : DTA} (ho : Cal K r f) (h1 : RdA K T S E ta G) : Rd K T S E (tCB r ta) (xCB f G) := fun σ ρ Hb H n P XP Q w sl h q x =>
  h1 σ ρ Hb H n _ XP _ w sl h (fun ss vs n1 Hb1 H1 s ha p => ho s.wd ha p (q.step s)) x

/-! ### tests, and, or, not, if -/
def xB (F : DT) : DTT := fun ρ n P XP => F ρ n (fun d n1 => match d with | .bl b => P b n1 | _ => False) XP
theorem rdt_B {te : TE} {F : DT} (h1 : Rd K T S E te F) : RdT K T S E (tB te) (xB F) := fun σ ρ Hb H n P XP Q w sl h q x =>
  h1 σ ρ Hb H n _ XP _ w sl h (fun d v n1 Hb1 H1 s hd p => by
    cases d with
    | bl b => cases hd; exact ⟨b, rfl, q b n1 Hb1 H1 s p⟩
    | _ => exact p.elim) x
theorem rdt_test {te : TE} {F : DT} (h1 : Rd K T S E te F) : RdT K T S E (tTest te) (xB F) := fun σ ρ Hb H n P XP Q w sl h q x =>
  h1 σ ρ Hb H n _ XP _ w sl h (fun d v n1 Hb1 H1 s hd p => by
    cases d with
    | bl b => cases hd; exact ⟨b, rfl, q b n1 Hb1 H1 s p⟩
    | _ => exact p.elim) x
def xtAnd (F G : DTT) : DTT := fun ρ n P XP => F ρ n (fun b n1 => match b with | true => G ρ n1 P XP | false => P false n1) XP
def xtOr (F G : DTT) : DTT := fun ρ n P XP => F ρ n (fun b n1 => match b with | true => P true n1 | false => G ρ n1 P XP) XP
def xtNot (F : DTT) : DTT := fun ρ n P XP => F ρ n (fun b n1 => P (!b) n1) XP
variable {t u : TT} {F G : DTT} {te tf : TE} {FE GE : DT}
theorem BOk.step {Hb H Hb1 H1 : Hp} {n n1 : Nat} {P : Bool → Nat → Prop} {Q : Bool → Hp → Prop} (a : Stp K T S Hb H n Hb1 H1 n1) (h : BOk K T S Hb H n P Q) : BOk K T S Hb1 H1 n1 P Q := fun b n' Hb' H' s => h b n' Hb' H' (a.trans s)
theorem rdt_and (h1 : RdT K T S E t F) (h2 : RdT K T S E u G) : RdT K T S E (tAnd t u) (xtAnd F G) := fun σ ρ Hb H n P XP Q w sl h q x =>
  h1 σ ρ Hb H n _ XP _ w sl h (fun b n1 Hb1 H1 s p => by
    cases b with
    | true => exact iteT (h2 σ ρ Hb1 H1 n1 _ XP _ s.wd (sl.step s) p (q.step s) (x.step s))
    | false => exact iteF (q _ _ _ _ s p)) x
theorem rdt_or (h1 : RdT K T S E t F) (h2 : RdT K T S E u G) : RdT K T S E (tOr t u) (xtOr F G) := fun σ ρ Hb H n P XP Q w sl h q x =>
  h1 σ ρ Hb H n _ XP _ w sl h (fun b n1 Hb1 H1 s p => by
    cases b with
    | false => exact iteF (h2 σ ρ Hb1 H1 n1 _ XP _ s.wd (sl.step s) p (q.step s) (x.step s))
    | true => exact iteT (q _ _ _ _ s p)) x
theorem rdt_not (h1 : RdT K T S E t F) : RdT K T S E (tNot t) (xtNot F) := fun σ ρ Hb H n P XP Q w sl h q x =>
  h1 σ ρ Hb H n _ XP _ w sl h (fun b n1 Hb1 H1 s p => q _ _ _ _ s p) x
def xAndV (F G : DT) : DT := fun ρ n P XP => F ρ n (fun d n1 => match d with | .bl true => G ρ n1 P XP | .bl false => P (.bl false) n1 | _ => False) XP
def xOrV (F G : DT) : DT := fun ρ n P XP => F ρ n (fun d n1 => match d with | .bl true => P (.bl true) n1 | .bl false => G ρ n1 P XP | _ => False) XP
def xNotV (F : DT) : DT := fun ρ n P XP => F ρ n (fun d n1 => match d with | .bl b => P (.bl (!b)) n1 | _ => False) XP
theorem rd_andV (h1 : Rd K T S E te FE) (h2 : Rd K T S E tf GE) : Rd K T S E (tAndV te tf) (xAndV FE GE) := fun σ ρ Hb H n P XP Q w sl h q x =>
  h1 σ ρ Hb H n _ XP _ w sl h (fun d v n1 Hb1 H1 s hd p => by
    cases d with
    | bl b =>
      cases hd
      cases b with
      | true => exact ⟨true, rfl, iteT (h2 σ ρ Hb1 H1 n1 _ XP _ s.wd (sl.step s) p (q.step s) (x.step s))⟩
      | false => exact ⟨false, rfl, iteF (q _ _ _ _ _ s (.bl false) p)⟩
    | _ => exact p.elim) x
theorem rd_orV (h1 : Rd K T S E te FE) (h2 : Rd K T S E tf GE) : Rd K T S E (tOrV te tf) (xOrV FE GE) := fun σ ρ Hb H n P XP Q w sl h q x =>
  h1 σ ρ Hb H n _ XP _ w sl h (fun d v n1 Hb1 H1 s hd p => by
    cases d with
    | bl b =>
      cases hd
      cases b with
      | false => exact ⟨false, rfl, iteF (h2 σ ρ Hb1 H1 n1 _ XP _ s.wd (sl.step s) p (q.step s) (x.step s))⟩
      | true => exact ⟨true, rfl, iteT (q _ _ _ _ _ s (.bl true) p)⟩
    | _ => exact p.elim) x
theorem rd_notV (h1 : Rd K T S E te FE) : Rd K T S E (tNotV te) (xNotV FE) := fun σ ρ Hb H n P XP Q w sl h q x =>
  h1 σ ρ Hb H n _ XP _ w sl h (fun d v n1 Hb1 H1 s hd p => by
    cases d with
    | bl b => cases hd; exact ⟨b, rfl, q _ _ _ _ _ s (.bl _) p⟩
    | _ => exact p.elim) x
def xIf (F : DTT) (G1 G2 : DT) : DT := fun ρ n P XP => F ρ n (fun b n1 => match b with | true => G1 ρ n1 P XP | false => G2 ρ n1 P XP) XP
theorem rd_if {tb : TE} {G2 : DT} (h1 : RdT K T S E t F) (h2 : Rd K T S E te FE) (h3 : Rd K T S E tb G2) : Rd K T S E (tIf t te tb) (xIf F FE G2) := fun σ ρ Hb H n P XP Q w sl h q x =>
  h1 σ ρ Hb H n _ XP _ w sl h (fun b n1 Hb1 H1 s p => by
    cases b with
    | true => exact iteT (h2 σ ρ Hb1 H1 n1 _ XP _ s.wd (sl.step s) p (q.step s) (x.step s))
    | false => exact iteF (h3 σ ρ Hb1 H1 n1 _ XP _ s.wd (sl.step s) p (q.step s) (x.step s))) x

/-! ### tuples, lists as displays -/
def svD : SV → Option D
  | .d x => some x
  | _ => none
def allD : List SV → Option (List D)
  | [] => some []
  | s :: ss => match svD s, allD ss with
    | some d, some ds => some (d :: ds)
    | _, _ => none
theorem Args.allD {Hb H : Hp} {n : Nat} : ∀ {ss : List SV} {vs : List V} {ds : List D}, Args K S Hb H n ss vs → DL.allD ss = some ds → DnA K Hb vs ds
  | [], _, _, h, e => by
    cases h
    cases (Option.some.inj e)
    exact .nil
  | s :: ss, _, ds, h, e => by
    cases h with
    | cons h1 h2 =>
      unfold DL.allD at e
      cases s with
      | d x =>
        cases e2 : DL.allD ss with
        | none => rw [e2] at e; simp [svD] at e
        | some es =>
          rw [e2] at e
          simp [svD] at e
          subst e
          obtain ⟨v, q1, q2⟩ := h1
          cases q1
          exact .cons q2 (Args.allD h2 e2)
      | _ => simp [svD] at e
def xTup (G : DTA) : DT := fun ρ n P XP => G ρ n (fun ss n1 => ∃ ds, allD ss = some ds ∧ ds.length ≤ 100000 ∧ P (.tup ds) n1) XP
def xLst (G : DTA) : DT := fun ρ n P XP => G ρ n (fun ss n1 => ∃ ds, allD ss = some ds ∧ ds.length ≤ 100000 ∧ P (.lst ds) n1) XP
theorem rd_tup {ta : TA} {G : DTA} (h1 : RdA K T S E ta G) : Rd K T S E (tTup ta) (xTup G) := fun σ ρ Hb H n P XP Q w sl h q x =>
  h1 σ ρ Hb H n _ XP _ w sl h (fun ss vs n1 Hb1 H1 s ha p => by
    obtain ⟨ds, e, hl, p⟩ := p
    have hd := ha.allD e
    refine ⟨sz_of (by rw [hd.len]; exact hl), fun a hp => ?_⟩
    exact (q.step s).new s.wd hp (.tup (SqT.of upd_same) (hd.up (Ex.new (free_of s.wd.ex hp)))) p) x
theorem rd_lst {ta : TA} {G : DTA} (h1 : RdA K T S E ta G) : Rd K T S E (tLst ta) (xLst G) := fun σ ρ Hb H n P XP Q w sl h q x =>
  h1 σ ρ Hb H n _ XP _ w sl h (fun ss vs n1 Hb1 H1 s ha p => by
    obtain ⟨ds, e, hl, p⟩ := p
    have hd := ha.allD e
    refine ⟨sz_of (by rw [hd.len]; exact hl), fun a hp => ?_⟩
    exact (q.step s).new s.wd hp (.lst (SqL.of upd_same) (hd.up (Ex.new (free_of s.wd.ex hp)))) p) x
end
end DL

/-! operators, subscripts, built-in functions on data -/
namespace DL
open L2 PySem PySem.Spec PyProof.Rows
open Evl (Ex ex_l ex_t sz_of)
section
variable {K : PySem.W.Frag} {T : Tb} {S : SA} {E : XK} {Hb H : Hp} {n : Nat} {P : DQ} {Q : VK} {X : Cx}
theorem Op2.or {r r' : R2} {f : D → D → (D → Prop) → Prop} (h : ∀ {T : Tb} {S : SA} {x y : V} {a b : D} {Hb H : Hp} {n : Nat} {P : DQ} {Q : VK}, World T S Hb H → Dn K Hb x a → Dn K Hb y b → f a b (fun d => P d n) → VOk K T S Hb H n P Q → r x y H Q ∨ r' x y H Q) : Op2 K (fun x y H Q => r x y H Q ∨ r' x y H Q) f := h
/-- v as data of the heap as it stands -/
theorem World.dn (w : World T S Hb H) {v : V} {d : D} (h : Dn K Hb v d) : Dn K H v d := h.up w.ex
theorem World.dna (w : World T S Hb H) {v : List V} {d : List D} (h : DnA K Hb v d) : DnA K H v d := h.up w.ex
/-! ### + -/
def rAddU (K : PySem.W.Frag) : R2 := fun x y H Q => (rI0 (fun i j => .int (i + j))) x y H Q ∨ ((∃ i j, x = .str i ∧ y = .str j ∧ i.length + j.length ≤ sizeLine ∧ Q (.str (i ++ j)) H) ∨ rCatA K x y H Q)
theorem op_addU : OpR X (binaryOp .Add) (rAddU X.K) := OpR.or op_add (OpR.or op_add_str op_catA)
def addD : D → D → (D → Prop) → Prop
  | .int i, .int j, k => k (.int (i + j))
  | .str x, .str y, k => x.length + y.length ≤ 100000 ∧ k (.str (x ++ y))
  | .tup xs, .tup ys, k => xs.length + ys.length ≤ 100000 ∧ k (.tup (xs ++ ys))
  | _, _, _ => False
theorem o2_add : Op2 K (rAddU K) addD := by
  intro T S x y a b Hb H n P Q w hx hy h q
  cases hx with
  | int i =>
    cases hy with
    | int j => exact .inl ⟨i, j, rfl, rfl, q.now w (.int _) h⟩
    | _ => exact h.elim
  | str i =>
    cases hy with
    | str j => exact .inr (.inl ⟨i, j, rfl, rfl, sz_of h.1, q.now w (.str _) h.2⟩)
    | _ => exact h.elim
  | @tup a xs ds h1 h2 =>
    cases hy with
    | @tup b ys es h3 h4 =>
      obtain ⟨hl, h⟩ := h
      refine .inr (.inr ⟨a, b, xs, ys, rfl, rfl, ex_t w.ex h1, ex_t w.ex h3, sz_of (by rw [h2.len, h4.len]; exact hl), fun e => ?_, fun e e' => ?_, fun e e' p hp => ?_⟩)
      · subst e
        have z : ds = [] := by have := h2.len; simpa using this.symm
        subst z
        exact q.now w (.tup h3 h4) h
      · subst e'
        have z : es = [] := by have := h4.len; simpa using this.symm
        subst z
        rw [List.append_nil] at h
        exact q.now w (.tup h1 h2) h
      · exact q.new w hp (.tup (SqT.of upd_same) ((h2.app h4).up (Ex.new (free_of w.ex hp)))) h
    | _ => exact h.elim
  | _ => exact h.elim
def subD : D → D → (D → Prop) → Prop
  | .int i, .int j, k => k (.int (i - j))
  | _, _, _ => False
theorem o2_sub : Op2 K (rI0 fun i j => .int (i - j)) subD := by
  intro T S x y a b Hb H n P Q w hx hy h q
  cases hx with
  | int i =>
    cases hy with
    | int j => exact ⟨i, j, rfl, rfl, q.now w (.int _) h⟩
    | _ => exact h.elim
  | _ => exact h.elim
def intD (C : Int → Int → Prop) (g : Int → Int → Int) : D → D → (D → Prop) → Prop
  | .int i, .int j, k => C i j ∧ k (.int (g i j))
  | _, _, _ => False
theorem o2_int {C : Int → Int → Prop} {g : Int → Int → Int} : Op2 K (rI C fun i j => .int (g i j)) (intD C g) := by
  intro T S x y a b Hb H n P Q w hx hy h q
  cases hx with
  | int i =>
    cases hy with
    | int j => exact ⟨i, j, rfl, rfl, h.1, q.now w (.int _) h.2⟩
    | _ => exact h.elim
  | _ => exact h.elim
def cmpD (g : Int → Int → Bool) : D → D → (D → Prop) → Prop
  | .int i, .int j, k => k (.bl (g i j))
  | _, _, _ => False
theorem o2_cmp {g : Int → Int → Bool} : Op2 K (rI0 fun i j => .bl (g i j)) (cmpD g) := by
  intro T S x y a b Hb H n P Q w hx hy h q
  cases hx with
  | int i =>
    cases hy with
    | int j => exact ⟨i, j, rfl, rfl, q.now w (.bl _) h⟩
    | _ => exact h.elim
  | _ => exact h.elim
/-! ### * : of ints, a tuple times an int -/
def rMulU (K : PySem.W.Frag) : R2 := fun x y H Q => (rI CMul (fun i j => .int (i * j))) x y H Q ∨ rRepT K x y H Q
theorem op_mulU : OpR X (binaryOp .Mult) (rMulU X.K) := OpR.or op_mul op_repT
def mulD : D → D → (D → Prop) → Prop
  | .int i, .int j, k => CMul i j ∧ k (.int (i * j))
  | .tup xs, .int j, k => xs ≠ [] ∧ 2 ≤ j ∧ j ≤ 1000 ∧ xs.length ≤ 1000 ∧ k (.tup (List.replicate j.toNat xs).flatten)
  | _, _, _ => False
theorem DnA.rep {vs : List V} {ds : List D} (h : DnA K H vs ds) : ∀ m : Nat, DnA K H (List.replicate m vs).flatten (List.replicate m ds).flatten
  | 0 => .nil
  | m + 1 => by
    rw [List.replicate_succ, List.replicate_succ, List.flatten_cons, List.flatten_cons]
    exact h.app (DnA.rep h m)
theorem o2_mul : Op2 K (rMulU K) mulD := by
  intro T S x y a b Hb H n P Q w hx hy h q
  cases hx with
  | int i =>
    cases hy with
    | int j => exact .inl ⟨i, j, rfl, rfl, h.1, q.now w (.int _) h.2⟩
    | _ => exact h.elim
  | @tup a xs ds h1 h2 =>
    cases hy with
    | int j =>
      obtain ⟨h3, h4, h5, h6, h⟩ := h
      refine .inr ⟨a, j, xs, rfl, rfl, ex_t w.ex h1, fun e => h3 (by subst e; have := h2.len; simpa using this.symm), h4, h5, by rw [h2.len]; exact h6, fun p hp => ?_⟩
      exact q.new w hp (.tup (SqT.of upd_same) ((h2.rep _).up (Ex.new (free_of w.ex hp)))) h
    | _ => exact h.elim
  | _ => exact h.elim
/-! ### ==, !=, is None -/
mutual
def toP : D → Option PyData
  | .non => some .none
  | .bl b => some (.bool b)
  | .int i => some (.int i)
  | .str x => some (.str x)
  | .lst ds => (toPs ds).map .list
  | .tup ds => (toPs ds).map .tuple
  | _ => none
def toPs : List D → Option (List PyData)
  | [] => some []
  | d :: ds => match toP d, toPs ds with
    | some p, some ps => some (p :: ps)
    | _, _ => none
end
mutual
theorem Dn.toDp : ∀ (d : D) {v : V} {p : PyData}, Dn K H v d → toP d = some p → Dp K H v p
  | .non, _, _, h, e => by cases h; cases e; exact .non
  | .bl b, _, _, h, e => by cases h; cases e; exact .bl b
  | .int i, _, _, h, e => by cases h; cases e; exact .int i
  | .str x, _, _, h, e => by cases h; cases e; exact .str x
  | .lst ds, _, p, h, e => by
    cases h with
    | lst h1 h2 =>
      unfold toP at e
      cases e2 : toPs ds with
      | none => rw [e2] at e; cases e
      | some ps =>
        rw [e2] at e
        cases e
        exact .lst h1 (DnA.toDp ds h2 e2)
  | .tup ds, _, p, h, e => by
    cases h with
    | tup h1 h2 =>
      unfold toP at e
      cases e2 : toPs ds with
      | none => rw [e2] at e; cases e
      | some ps =>
        rw [e2] at e
        cases e
        exact .tup h1 (DnA.toDp ds h2 e2)
  | .dic _ _, _, _, h, e => by unfold toP at e; cases e
  | .dit _ _, _, _, h, e => by unfold toP at e; cases e
  | .ins _ _ _, _, _, h, e => by unfold toP at e; cases e
  | .exc _ _ _, _, _, h, e => by unfold toP at e; cases e
  | .fnv _, _, _, h, e => by unfold toP at e; cases e
theorem DnA.toDp : ∀ (ds : List D) {vs : List V} {ps : List PyData}, DnA K H vs ds → toPs ds = some ps → DpAll K H vs ps
  | [], _, _, h, e => by cases h; cases e; exact .nil
  | d :: ds, _, ps, h, e => by
    cases h with
    | cons h1 h2 =>
      unfold toPs at e
      cases e1 : toP d with
      | none => rw [e1] at e; cases e
      | some p =>
        cases e2 : toPs ds with
        | none => rw [e1, e2] at e; cases e
        | some qs =>
          rw [e1, e2] at e
          cases e
          exact .cons (Dn.toDp d h1 e1) (DnA.toDp ds h2 e2)
end
/-- == of what is no object -/
def eqP (f : Bool → Bool) : D → D → (D → Prop) → Prop
  | .int i, .int j, k => k (.bl (f (decide (i = j))))
  | .bl i, .bl j, k => k (.bl (f (decide (i = j))))
  | .str i, .str j, k => k (.bl (f (decide (i = j))))
  | a, b, k => ∃ p q, toP a = some p ∧ toP b = some q ∧ SeqAt.shaped p = true ∧ SeqAt.shaped q = true ∧ k (.bl (f (PyData.eqv p q)))
def eqD : D → D → (D → Prop) → Prop := eqP id
def neD : D → D → (D → Prop) → Prop := eqP not
theorem eqP_int {f : Bool → Bool} {i j : Int} {k : D → Prop} : eqP f (.int i) (.int j) k = k (.bl (f (decide (i = j)))) := rfl
theorem eqP_bl {f : Bool → Bool} {i j : Bool} {k : D → Prop} : eqP f (.bl i) (.bl j) k = k (.bl (f (decide (i = j)))) := rfl
theorem eqP_str {f : Bool → Bool} {i j : Str} {k : D → Prop} : eqP f (.str i) (.str j) k = k (.bl (f (decide (i = j)))) := rfl
def rEqU (K : PySem.W.Frag) : R2 := fun x y H Q => rEq x y H Q ∨ rEqD K x y H Q
def rNeU (K : PySem.W.Frag) : R2 := fun x y H Q => rNe x y H Q ∨ rNeD K x y H Q
theorem op_eqU {X : Cx} (hu : X.A.units + 64 < cLine) : OpR X (compareOp .Eq) (rEqU X.K) := fun pins s σ H x y u v Q I rx ry h => h.elim (op_eq pins s σ H x y u v Q I rx ry) (op_eqD hu pins s σ H x y u v Q I rx ry)
theorem op_neU {X : Cx} (hu : X.A.units + 64 < cLine) : OpR X (compareOp .NotEq) (rNeU X.K) := fun pins s σ H x y u v Q I rx ry h => h.elim (op_ne pins s σ H x y u v Q I rx ry) (op_neD hu pins s σ H x y u v Q I rx ry)
theorem decI {i j : Int} : decide (V.int i = V.int j) = decide (i = j) := by simp
theorem decB {i j : Bool} : decide (V.bl i = V.bl j) = decide (i = j) := by simp
theorem decS {i j : Str} : decide (V.str i = V.str j) = decide (i = j) := by simp
theorem o2_eq : Op2 K (rEqU K) eqD := by
  intro T S x y a b Hb H n P Q w hx hy h q
  unfold eqD eqP at h
  split at h
  · cases hx
    cases hy
    exact .inl ⟨rfl, q.now w (.bl _) (by rw [decI]; exact h)⟩
  · cases hx
    cases hy
    exact .inl ⟨rfl, q.now w (.bl _) (by rw [decB]; exact h)⟩
  · cases hx
    cases hy
    exact .inl ⟨rfl, q.now w (.bl _) (by rw [decS]; exact h)⟩
  · obtain ⟨p, r, e1, e2, s1, s2, h⟩ := h
    exact .inr ⟨p, r, Dn.toDp _ (w.dn hx) e1, Dn.toDp _ (w.dn hy) e2, s1, s2, q.now w (.bl _) h⟩
theorem o2_ne : Op2 K (rNeU K) neD := by
  intro T S x y a b Hb H n P Q w hx hy h q
  unfold neD eqP at h
  split at h
  · cases hx
    cases hy
    exact .inl ⟨rfl, q.now w (.bl _) (by rw [decI]; exact h)⟩
  · cases hx
    cases hy
    exact .inl ⟨rfl, q.now w (.bl _) (by rw [decB]; exact h)⟩
  · cases hx
    cases hy
    exact .inl ⟨rfl, q.now w (.bl _) (by rw [decS]; exact h)⟩
  · obtain ⟨p, r, e1, e2, s1, s2, h⟩ := h
    exact .inr ⟨p, r, Dn.toDp _ (w.dn hx) e1, Dn.toDp _ (w.dn hy) e2, s1, s2, q.now w (.bl _) h⟩
/-! ### in, not in -/
def inD : D → D → (D → Prop) → Prop := fun a b k => ∃ (i : Int) (ns : List Int), a = .int i ∧ b = .tup (ns.map .int) ∧ k (.bl (ns.any (· == i)))
theorem o2_in : Op2 K (rIn K false) inD := by
  intro T S x y a b Hb H n P Q w hx hy h q
  obtain ⟨i, ns, rfl, rfl, h⟩ := h
  cases hx
  cases hy with
  | @tup a xs ds h1 h2 =>
    have ev : ∀ {ns : List Int} {xs : List V}, DnA K Hb xs (ns.map D.int) → xs = ns.map V.int := by
      intro ns
      induction ns with
      | nil => intro xs h; cases h; rfl
      | cons m ns ih =>
        intro xs h
        cases h with
        | cons h1 h2 =>
          cases h1
          rw [ih h2]
          rfl
    have e := ev h2
    subst e
    refine ⟨a, _, rfl, .inr (ex_t w.ex h1), rfl, ?_, ?_⟩
    · simp [List.all_map]; intro x hx; rfl
    · refine q.now w (.bl _) ?_
      have ei : inV (V.int i) (ns.map V.int) = ns.any (· == i) := by
        unfold inV
        rw [List.any_map]
        rfl
      show P (.bl (if false = true then !inV (V.int i) (ns.map V.int) else inV (V.int i) (ns.map V.int))) n
      rw [if_neg Bool.false_ne_true, ei]
      exact h
def isNon : D → Bool
  | .non => true
  | _ => false
theorem Dn.isN {v : V} {d : D} (h : Dn K H v d) : decide (v = .non) = isNon d := by cases h <;> simp [isNon]
def isD : D → D → (D → Prop) → Prop := fun a b k => b = .non ∧ k (.bl (isNon a))
def isnD : D → D → (D → Prop) → Prop := fun a b k => b = .non ∧ k (.bl (!isNon a))
theorem o2_isN : Op2 K (fun x y H Q => y = .non ∧ Q (.bl (decide (x = .non))) H) isD := by
  intro T S x y a b Hb H n P Q w hx hy h q
  obtain ⟨rfl, h⟩ := h
  cases hy
  exact ⟨rfl, q.now w (.bl _) (by rw [hx.isN]; exact h)⟩
theorem o2_notN : Op2 K (fun x y H Q => y = .non ∧ Q (.bl (!decide (x = .non))) H) isnD := by
  intro T S x y a b Hb H n P Q w hx hy h q
  obtain ⟨rfl, h⟩ := h
  cases hy
  exact ⟨rfl, q.now w (.bl _) (by rw [hx.isN]; exact h)⟩
/-! ### in, not in: flat things in a list or a tuple -/
def flatD : D → Bool
  | .non | .bl _ | .int _ | .str _ => true
  | _ => false
/-! ### a <= b <= c -/
def xChain (f g : D → D → (D → Prop) → Prop) (F G I : DT) : DT := fun ρ n P XP => F ρ n (fun a n1 => G ρ n1 (fun b n2 => f a b fun d => match d with
  | .bl true => I ρ n2 (fun c n3 => g b c fun d => P d n3) XP
  | .bl false => P (.bl false) n2
  | _ => False) XP) XP
theorem rd_chain {r r' : R2} {f g : D → D → (D → Prop) → Prop} {ta tb tc : TE} {F G I : DT} (ho : Op2 K r f) (ho' : Op2 K r' g) (h1 : DL.Rd K T S E ta F) (h2 : DL.Rd K T S E tb G) (h3 : DL.Rd K T S E tc I) : DL.Rd K T S E (tChain r r' ta tb tc) (xChain f g F G I) := fun σ ρ Hb H n P XP Q w sl h q x =>
  h1 σ ρ Hb H n _ XP _ w sl h (fun d v n1 Hb1 H1 s hd p => h2 σ ρ Hb1 H1 n1 _ XP _ s.wd (sl.step s) p (fun e u n2 Hb2 H2 s2 he p2 => by
    refine ho (S := S) (P := fun d n => match d with
      | .bl true => I ρ n (fun c n3 => g e c fun d => P d n3) XP
      | .bl false => P (.bl false) n
      | _ => False) s2.wd (hd.up s2.ex) he p2 fun d3 v3 n3 Hb3 H3 s3 hd3 p3 => ?_
    cases d3 with
    | bl b =>
      cases hd3
      have st := (s.trans s2).trans s3
      cases b with
      | true =>
        refine ⟨true, rfl, iteT ?_⟩
        refine h3 σ ρ Hb3 H3 n3 _ XP _ s3.wd (sl.step st) p3 (fun c z n4 Hb4 H4 s4 hc p4 => ?_) (x.step st)
        exact ho' s4.wd ((he.up s3.ex).up s4.ex) hc p4 ((q.step st).step s4)
      | false => exact ⟨false, rfl, iteF (q _ _ _ _ _ st (.bl false) p3)⟩
    | _ => exact p3.elim) (x.step s)) x
/-! ### subscripts -/
def atD (xs : List D) (i : Int) : Option D := (ixN xs.length i).bind fun j => xs[j]?
theorem DnA.at {vs : List V} {ds : List D} {i : Int} {d : D} (h : DnA K H vs ds) (e : atD ds i = some d) : ∃ v, atI vs i = some v ∧ Dn K H v d := by
  unfold atD at e
  cases e1 : ixN ds.length i with
  | none => rw [e1] at e; cases e
  | some j =>
    rw [e1] at e
    obtain ⟨v, e2, hv⟩ := h.get (i := j) (by simpa using e)
    exact ⟨v, by unfold atI; rw [h.len, e1]; simpa using e2, hv⟩
def ixD : D → D → (D → Prop) → Prop
  | .lst xs, .int i, k => ∃ d, atD xs i = some d ∧ k d
  | .tup xs, .int i, k => ∃ d, atD xs i = some d ∧ k d
  | _, _, _ => False
theorem o2_ix : Op2 K (rIx K) ixD := by
  intro T S x y a b Hb H n P Q w hx hy h q
  cases hx with
  | @lst a xs ds h1 h2 =>
    cases hy with
    | int j =>
      obtain ⟨d, e, h⟩ := h
      obtain ⟨v, e2, hv⟩ := h2.at e
      exact .inl ⟨a, xs, j, v, rfl, rfl, ex_l w.ex h1, e2, q.now w hv h⟩
    | _ => exact h.elim
  | @tup a xs ds h1 h2 =>
    cases hy with
    | int j =>
      obtain ⟨d, e, h⟩ := h
      obtain ⟨v, e2, hv⟩ := h2.at e
      exact .inr (.inl ⟨a, xs, j, v, rfl, rfl, ex_t w.ex h1, e2, q.now w hv h⟩)
    | _ => exact h.elim
  | _ => exact h.elim
/-- d[k], the key in d -/
def keyD : D → Option Key
  | .int i => some (.inl i)
  | .str x => some (.inr x)
  | _ => none
def valD (ks : List Key) (ds : List D) (k : Key) : Option D := match ks, ds with
  | k' :: ks, d :: ds => if k' = k then some d else valD ks ds k
  | _, _ => none
theorem val_of : ∀ {kvs : List (Key × V)} {ks : List Key} {ds : List D} {k : Key} {d : D}, kvs.map (·.1) = ks → DnA K H (kvs.map (·.2)) ds → valD ks ds k = some d → ∃ v, valV kvs k = some v ∧ Dn K H v d
  | [], _, ds, k, d, e, h, g => by
    subst e
    unfold valD at g
    simp at g
  | (k', v) :: kvs, _, ds, k, d, e, h, g => by
    subst e
    cases h with
    | @cons _ _ d0 ds0 h1 h2 =>
      have g : (if k' = k then some d0 else valD (kvs.map (·.1)) ds0 k) = some d := g
      by_cases hk : k' = k
      · rw [if_pos hk] at g
        cases g
        exact ⟨v, by simp [valV, hk], h1⟩
      · rw [if_neg hk] at g
        obtain ⟨v', e2, h3⟩ := val_of (ks := kvs.map (·.1)) rfl h2 g
        refine ⟨v', ?_, h3⟩
        unfold valV at e2 ⊢
        rw [List.find?_cons_of_neg (by simpa using hk)]
        exact e2
def xDGet (F G : DT) : DT := fun ρ n P XP => F ρ n (fun a n1 => G ρ n1 (fun b n2 => match a with
  | .dic ks ds => ∃ k d, keyD b = some k ∧ valD ks ds k = some d ∧ P d n2
  | _ => False) XP) XP
theorem rd_dget {ta tb : TE} {F G : DT} (h1 : DL.Rd K T S E ta F) (h2 : DL.Rd K T S E tb G) : DL.Rd K T S E (tDGet ta tb) (xDGet F G) := fun σ ρ Hb H n P XP Q w sl h q x =>
  h1 σ ρ Hb H n _ XP _ w sl h (fun d v n1 Hb1 H1 s hd p => h2 σ ρ Hb1 H1 n1 _ XP _ s.wd (sl.step s) p (fun e u n2 Hb2 H2 s2 he p2 => by
    cases d with
    | dic ks ds =>
      obtain ⟨k, d, e1, e2, p2⟩ := p2
      cases hd with
      | @dic a kvs ks ds g1 g2 g3 =>
        obtain ⟨v, e3, hv⟩ := val_of g2 (g3.up s2.ex) e2
        have ek : u = kV k := by
          cases e with
          | int i => cases he; cases e1; rfl
          | str i => cases he; cases e1; rfl
          | _ => cases e1
        refine ⟨a, v, rfl, ?_, ?_⟩
        · rw [ek, ← e3]
          exact DGet.k (s2.wd.ex _ _ (s2.ex _ _ g1))
        · exact q _ _ _ _ _ (s.trans s2) hv p2
    | _ => exact p2.elim) (x.step s)) x
/-! ### slices of tuples and lists -/
def cutD (xs : List D) (lo hi : Option Int) : List D := (xs.drop (HT.sIx xs.length 0 lo)).take (HT.sIx xs.length xs.length hi - HT.sIx xs.length 0 lo)
theorem DnA.cut {vs : List V} {ds : List D} (h : DnA K H vs ds) (lo hi : Option Int) : DnA K H (cutV vs lo hi) (cutD ds lo hi) := by
  unfold cutV cutD
  rw [h.len]
  exact (h.drop _).take _
def rSlU (K : PySem.W.Frag) : V → Option Int → Option Int → Hp → VK → Prop := fun x lo hi H Q => rSlL K x lo hi H Q ∨ (rSlA K x lo hi H Q ∨ rSlS x lo hi H Q)
theorem sl_U : SlR X (rSlU X.K) := SlR.or sl_list (SlR.or sl_tupA sl_str)
def slD : D → Option Int → Option Int → (D → Prop) → Prop
  | .lst xs, lo, hi, k => k (.lst (cutD xs lo hi))
  | .tup xs, lo, hi, k => k (.tup (cutD xs lo hi))
  | .str z, lo, hi, k => z.length ≤ 100000 ∧ k (.str (cutS z lo hi))
  | _, _, _, _ => False
abbrev DTO := List SV → Nat → (Option Int → Nat → Prop) → DX → Prop
def RdO (K : PySem.W.Frag) (T : Tb) (S : SA) (E : XK) (to : TO) (F : DTO) : Prop :=
  ∀ σ ρ Hb H n P XP (Q : Option Int → Hp → Prop), World T S Hb H → Slots K S Hb H n ρ σ → F ρ n P XP → (∀ o n' Hb' H', Stp K T S Hb H n Hb' H' n' → P o n' → Q o H') → XOk K T S Hb H n XP E → to σ H Q
def xoNone : DTO := fun _ n P _ => P none n
def xoSome (F : DT) : DTO := fun ρ n P XP => F ρ n (fun d n1 => match d with | .int i => P (some i) n1 | _ => False) XP
theorem rdo_none : RdO K T S E tNoPart xoNone := fun σ ρ Hb H n P XP Q w sl h q _ => q none n Hb H (.refl w) h
theorem rdo_some {te : TE} {F : DT} (h1 : DL.Rd K T S E te F) : RdO K T S E (tPart te) (xoSome F) := fun σ ρ Hb H n P XP Q w sl h q x =>
  h1 σ ρ Hb H n _ XP _ w sl h (fun d v n1 Hb1 H1 s hd p => by
    cases d with
    | int i => cases hd; exact ⟨i, rfl, q _ _ _ _ s p⟩
    | _ => exact p.elim) x
def xSl (F : DT) (G I : DTO) : DT := fun ρ n P XP => F ρ n (fun a n1 => G ρ n1 (fun lo n2 => I ρ n2 (fun hi n3 => slD a lo hi fun d => P d n3) XP) XP) XP
theorem rd_sl {te : TE} {tl th : TO} {F : DT} {G I : DTO} (h1 : DL.Rd K T S E te F) (h2 : RdO K T S E tl G) (h3 : RdO K T S E th I) : DL.Rd K T S E (tSl (rSlU K) te tl th) (xSl F G I) := fun σ ρ Hb H n P XP Q w sl h q x =>
  h1 σ ρ Hb H n _ XP _ w sl h (fun d v n1 Hb1 H1 s hd p => h2 σ ρ Hb1 H1 n1 _ XP _ s.wd (sl.step s) p (fun lo n2 Hb2 H2 s2 p2 => h3 σ ρ Hb2 H2 n2 _ XP _ s2.wd ((sl.step s).step s2) p2 (fun hi n3 Hb3 H3 s3 p3 => by
    have st := (s.trans s2).trans s3
    have hd3 := (hd.up s2.ex).up s3.ex
    have q3 := q.step st
    cases hd3 with
    | @lst a xs ds g1 g2 => exact .inl ⟨a, xs, rfl, ex_l s3.wd.ex g1, fun p hp => q3.new s3.wd hp (.lst (SqL.of upd_same) ((g2.cut lo hi).up (Ex.new (free_of s3.wd.ex hp)))) p3⟩
    | @tup a xs ds g1 g2 =>
      refine .inr (.inl ⟨a, xs, rfl, ex_t s3.wd.ex g1, fun e => ?_, fun _ p hp => q3.new s3.wd hp (.tup (SqT.of upd_same) ((g2.cut lo hi).up (Ex.new (free_of s3.wd.ex hp)))) p3⟩)
      have z : cutD ds lo hi = ds := by
        unfold cutD
        rw [← g2.len, e.1, e.2, g2.len]
        simp
      have p3 : P (.tup (cutD ds lo hi)) n3 := p3
      rw [z] at p3
      exact q3.now s3.wd (.tup g1 g2) p3
    | str z => exact .inr (.inr ⟨z, rfl, sz_of p3.1, q3.now s3.wd (.str _) p3.2⟩)
    | _ => exact p3.elim) ((x.step s).step s2)) (x.step s)) x
end
end DL

/-! repr, isinstance, len, all, tuple, list, int, abs on data -/
namespace DL
open L2 PySem PySem.Spec PyProof.Rows
open Evl (Ex ex_l ex_t sz_of)
section
variable {K : PySem.W.Frag} {T : Tb} {S : SA} {E : XK} {Hb H : Hp} {n : Nat} {P : DQ} {Q : VK} {X : Cx}
/-! ### repr -/
def okR (d : PyData) : Prop := d.showable = true ∧ d.hasDict = false ∧ d.depth ≤ 60 ∧ d.shown.length ≤ 100000
def rRepr (K : PySem.W.Frag) : List V → Hp → VK → Prop := fun xs H Q => ∃ v d, xs = [v] ∧ Dp K H v d ∧ okR d ∧ Q (.str d.shown) H
theorem call_repr (hg : X.A.guards = some []) (hu : X.A.units + 64 < cLine) : CallR X (.builtin "repr") (rRepr X.K) := by
  intro pins s σ H xs us Q I r h
  obtain ⟨v, d, rfl, hd, ⟨h1, h2, h3, h4⟩, q⟩ := h
  obtain ⟨u, rfl, ru⟩ : ∃ u, us = [u] ∧ RelV v u := by
    cases r with
    | cons a b => cases b; exact ⟨_, rfl, a⟩
  have seqs : ∀ a, u = .ref a → isDisplay d = true → wpAny (model X.prog X.w) X.A (call (.builtin "repr") [u]) (EP X pins σ Q) X.xe s := fun a e _ => by
    subst e
    obtain ⟨as, rd⟩ := Dp.reads I d v _ hd ru
    refine repr_of_reads' rd h1 (PyData.noDict_hsm h2) hg (by omega) (fun _ _ e => e) (fun h' u tk hk => ?_) (sz_of h4)
    exact ⟨.str d.shown, H, I.kept (h' := h') (t' := tk) hk, ⟨_, rfl⟩, q⟩
  cases hd with
  | non => cases ru; exact PySem.P.repr_of_none ⟨.str _, H, I.tok _, ⟨_, rfl⟩, q⟩
  | bl b => cases ru; exact PySem.P.repr_of_bool ⟨.str _, H, I.tok _, ⟨_, rfl⟩, q⟩
  | int i =>
    obtain ⟨t, rfl⟩ := ru
    exact PySem.P.repr_of_int (by simpa [PyData.showable] using h1) ⟨.str _, H, I.tok _, ⟨_, rfl⟩, q⟩
  | str x =>
    obtain ⟨t, rfl⟩ := ru
    exact PySem.P.repr_of_str ⟨.str _, H, I.tok _, ⟨_, rfl⟩, q⟩ (sz_of h4)
  | lst a b => exact seqs _ ru rfl
  | tup a b => exact seqs _ ru rfl
def reprD : List SV → (D → Prop) → Prop
  | [.d d], k => ∃ p, toP d = some p ∧ okR p ∧ k (.str p.shown)
  | _, _ => False
theorem cal_repr : Cal K (rRepr K) reprD := by
  intro T S vs ss Hb H n P Q w ha h q
  cases ha with
  | nil => exact h.elim
  | @cons s v ss vs h1 h2 =>
    cases h2 with
    | cons _ _ => cases s <;> exact h.elim
    | nil =>
      cases s with
      | d d =>
        obtain ⟨p, e, ok, h⟩ := h
        obtain ⟨v', e', hv⟩ := h1
        cases e'
        exact ⟨v, p, rfl, Dn.toDp d (w.dn hv) e, ok, q.now w (.str _) h⟩
      | _ => exact h.elim
/-- one argument that is data -/
def one1 (f : D → (D → Prop) → Prop) : List SV → (D → Prop) → Prop
  | [.d d], k => f d k
  | _, _ => False
theorem cal_one {r : List V → Hp → VK → Prop} {f : D → (D → Prop) → Prop} (h : ∀ {T : Tb} {S : SA} {v : V} {d : D} {Hb H : Hp} {n : Nat} {P : DQ} {Q : VK}, World T S Hb H → Dn K Hb v d → f d (fun d => P d n) → VOk K T S Hb H n P Q → r [v] H Q) : Cal K r (one1 f) := by
  intro T S vs ss Hb H n P Q w ha hf q
  cases ha with
  | nil => exact hf.elim
  | @cons s v ss vs h1 h2 =>
    cases h2 with
    | cons _ _ => cases s <;> exact hf.elim
    | nil =>
      cases s with
      | d d =>
        obtain ⟨v', e', hv⟩ := h1
        cases e'
        exact h w hv hf q
      | _ => exact hf.elim
def two2 (f : D → D → (D → Prop) → Prop) : List SV → (D → Prop) → Prop
  | [.d a, .d b], k => f a b k
  | _, _ => False
theorem cal_two {r : List V → Hp → VK → Prop} {f : D → D → (D → Prop) → Prop} (h : ∀ {T : Tb} {S : SA} {v u : V} {a b : D} {Hb H : Hp} {n : Nat} {P : DQ} {Q : VK}, World T S Hb H → Dn K Hb v a → Dn K Hb u b → f a b (fun d => P d n) → VOk K T S Hb H n P Q → r [v, u] H Q) : Cal K r (two2 f) := by
  intro T S vs ss Hb H n P Q w ha hf q
  cases ha with
  | nil => exact hf.elim
  | @cons s v ss vs h1 h2 =>
    cases h2 with
    | nil => cases s <;> exact hf.elim
    | @cons s' v' ss' vs' h3 h4 =>
      cases h4 with
      | cons _ _ => cases s <;> first | exact hf.elim | (cases s' <;> exact hf.elim)
      | nil =>
        cases s with
        | d d =>
          cases s' with
          | d e =>
            obtain ⟨_, e1, hv⟩ := h1
            obtain ⟨_, e2, hu⟩ := h3
            cases e1
            cases e2
            exact h w hv hu hf q
          | _ => exact hf.elim
        | _ => exact hf.elim
/-! ### len -/
def rLenU (K : PySem.W.Frag) : List V → Hp → VK → Prop := fun xs H Q => (∃ p ys, xs = [.ref p] ∧ (SqL K H p ys ∨ SqT K H p ys) ∧ Q (.int ys.length) H) ∨ ∃ z, xs = [.str z] ∧ z.length ≤ sizeLine ∧ Q (.int z.length) H
theorem call_lenU : CallR X (.builtin "len") (rLenU X.K) := CallR.or call_len_seq call_len_str
def lenD : D → (D → Prop) → Prop
  | .lst xs, k => k (.int xs.length)
  | .tup xs, k => k (.int xs.length)
  | .str z, k => z.length ≤ 100000 ∧ k (.int z.length)
  | _, _ => False
theorem cal_len : Cal K (rLenU K) (one1 lenD) := by
  refine cal_one ?_
  intro T S v d Hb H n P Q w hv h q
  cases hv with
  | lst h1 h2 => exact .inl ⟨_, _, rfl, .inl (ex_l w.ex h1), q.now w (.int _) (by rw [h2.len]; exact h)⟩
  | tup h1 h2 => exact .inl ⟨_, _, rfl, .inr (ex_t w.ex h1), q.now w (.int _) (by rw [h2.len]; exact h)⟩
  | str z => exact .inr ⟨_, rfl, sz_of h.1, q.now w (.int _) h.2⟩
  | _ => exact h.elim
/-! ### all, any -/
def blsD : List D → Option (List Bool)
  | [] => some []
  | .bl b :: ds => (blsD ds).map (b :: ·)
  | _ :: _ => none
theorem bls_of : ∀ {ds : List D} {vs : List V} {bs : List Bool}, DnA K H vs ds → blsD ds = some bs → vs = bs.map V.bl
  | [], _, bs, h, e => by cases h; cases e; rfl
  | d :: ds, _, bs, h, e => by
    cases h with
    | cons h1 h2 =>
      cases d with
      | bl b =>
        unfold blsD at e
        cases e2 : blsD ds with
        | none => rw [e2] at e; cases e
        | some cs =>
          rw [e2] at e
          cases e
          cases h1
          rw [bls_of h2 e2]
          rfl
      | _ => cases e
def allD' : D → (D → Prop) → Prop
  | .lst xs, k => ∃ bs, blsD xs = some bs ∧ k (.bl (bs.all id))
  | _, _ => False
theorem cal_all : Cal K (rAll K) (one1 allD') := by
  refine cal_one ?_
  intro T S v d Hb H n P Q w hv h q
  cases hv with
  | lst h1 h2 =>
    obtain ⟨bs, e, h⟩ := h
    refine ⟨_, bs, rfl, ?_, q.now w (.bl _) h⟩
    rw [← bls_of h2 e]
    exact ex_l w.ex h1
  | _ => exact h.elim
/-! ### tuple, list -/
def rTupOf (K : PySem.W.Frag) : List V → Hp → VK → Prop := fun xs H Q => ∃ p ys, xs = [.ref p] ∧ ((SqL K H p ys ∧ ∀ l, H l = none → Q (.ref l) (upd H l (.tup ys))) ∨ (SqT K H p ys ∧ Q (.ref p) H))
def tupD : D → (D → Prop) → Prop
  | .lst xs, k => k (.tup xs)
  | .tup xs, k => k (.tup xs)
  | _, _ => False
theorem call_tupU : CallR X (.type "tuple") (rTupOf X.K) := call_tuple_of
theorem cal_tuple : Cal K (rTupOf K) (one1 tupD) := by
  refine cal_one ?_
  intro T S v d Hb H n P Q w hv h q
  cases hv with
  | lst h1 h2 => exact ⟨_, _, rfl, .inl ⟨ex_l w.ex h1, fun p hp => q.new w hp (.tup (SqT.of upd_same) (h2.up (Ex.new (free_of w.ex hp)))) h⟩⟩
  | tup h1 h2 => exact ⟨_, _, rfl, .inr ⟨ex_t w.ex h1, q.now w (.tup h1 h2) h⟩⟩
  | _ => exact h.elim
def rListU (K : PySem.W.Frag) : List V → Hp → VK → Prop := fun xs H Q => ∃ p ys, xs = [.ref p] ∧ (SqL K H p ys ∨ SqT K H p ys) ∧ ∀ l, H l = none → Q (.ref l) (upd H l (.lst ys))
theorem call_rListU : CallR X (.type "list") (rListU X.K) := call_list_of
/-! ### ints -/
def int1D : D → (D → Prop) → Prop
  | .int i, k => k (.int i)
  | _, _ => False
def rInt1 : List V → Hp → VK → Prop := fun xs H Q => (∃ i, xs = [.int i] ∧ Q (.int i) H) ∨ ∃ k, xs = [.bl k] ∧ Q (.int (if k then 1 else 0)) H
theorem call_rInt1 : CallR X (.type "int") rInt1 := call_int1
theorem cal_int : Cal K (rInt1) (one1 int1D) := by
  refine cal_one ?_
  intro T S v d Hb H n P Q w hv h q
  cases hv with
  | int i => exact .inl ⟨_, rfl, q.now w (.int _) h⟩
  | _ => exact h.elim
def rAbs : List V → Hp → VK → Prop := fun xs H Q => ∃ i, xs = [.int i] ∧ Q (.int (if i < 0 then -i else i)) H
theorem call_rAbs : CallR X (.builtin "abs") rAbs := call_abs
def minD : D → D → (D → Prop) → Prop
  | .int i, .int j, k => k (.int (if j < i then j else i))
  | _, _, _ => False
def rMin2 : List V → Hp → VK → Prop := fun xs H Q => ∃ i j, xs = [.int i, .int j] ∧ Q (.int (if j < i then j else i)) H
theorem call_rMin2 (hc : X.calm = true) : CallR X (.builtin "min") rMin2 := call_min2 hc
theorem cal_min2 : Cal K (rMin2) (two2 minD) := by
  refine cal_two ?_
  intro T S v u a b Hb H n P Q w hv hu h q
  cases hv with
  | int i =>
    cases hu with
    | int j => exact ⟨_, _, rfl, q.now w (.int _) h⟩
    | _ => exact h.elim
  | _ => exact h.elim
def negD : D → (D → Prop) → Prop
  | .int i, k => k (.int (-i))
  | _, _ => False
theorem o1_neg : Op1 K (rU fun i => .int (-i)) negD := by
  intro T S x a Hb H n P Q w hx h q
  cases hx with
  | int i => exact ⟨i, rfl, q.now w (.int _) h⟩
  | _ => exact h.elim
end
end DL

/-! statements, targets, what is walked, comprehensions, displays, fields, isinstance on data -/
namespace DL
open L2 PySem PySem.Spec PyProof.Rows
open Evl (Ex ex_l ex_t sz_of)

/-! ### statements -/
structure DEn where
  nx : List SV → Nat → Prop
  rt : DQ
  bk : List SV → Nat → Prop := fun _ _ => False
  ct : List SV → Nat → Prop := fun _ _ => False
abbrev DTS := DEn → List SV → Nat → DX → Prop
/-- the lists of one's own are younger than the base -/
def OwF (H0 : Hp) (ρ : List SV) (σ : L2.St) : Prop := ∀ (i : Nat) (xs : SV) (p : Addr), ρ[i]? = some xs → isOwn xs = true → σ[i]? = some (some (.ref p)) → Fresh H0 p
structure Sl0 (K : PySem.W.Frag) (S : SA) (H0 Hb H : Hp) (n : Nat) (ρ : List SV) (σ : L2.St) : Prop where
  sl : Slots K S Hb H n ρ σ
  fr : OwF H0 ρ σ
def NOk (K : PySem.W.Frag) (T : Tb) (S : SA) (Hb H : Hp) (n : Nat) (Hc : Hp) (P : List SV → Nat → Prop) (Q : L2.St → Hp → Prop) : Prop :=
  ∀ ρ σ n' Hb' H', Ex Hc Hb' → Stp K T S Hb H n Hb' H' n' → Sl0 K S H Hb' H' n' ρ σ → P ρ n' → Q σ H'
/-- Hc: what is frozen now -/
structure EOk (K : PySem.W.Frag) (T : Tb) (S : SA) (Hb H : Hp) (n : Nat) (Hc : Hp) (DD : DEn) (D : Ends) : Prop where
  nx : NOk K T S Hb H n Hc DD.nx D.nx
  rt : VOk K T S Hb H n DD.rt D.rt
  bk : NOk K T S Hb H n Hc DD.bk D.bk
  ct : NOk K T S Hb H n Hc DD.ct D.ct
/-- from the base Hb0 H0 n0 (a def's entry) the run has come to Hb H n -/
def RdS (K : PySem.W.Frag) (T : Tb) (S : SA) (E : XK) (ts : TS) (G : DTS) : Prop :=
  ∀ σ ρ Hb0 H0 n0 Hb H n DD XP D, Stp K T S Hb0 H0 n0 Hb H n → Sl0 K S H0 Hb H n ρ σ → G DD ρ n XP → EOk K T S Hb0 H0 n0 Hb DD D → XOk K T S Hb0 H0 n0 XP E → ts D σ H
section
variable {K : PySem.W.Frag} {T : Tb} {S : SA} {E : XK} {Hb H Hb1 H1 H0 : Hp} {n n1 : Nat}
/-- a slot is stored -/
theorem Slots.set {ρ : List SV} {σ : L2.St} {i : Nat} {v : V} {d : D} (sl : Slots K S Hb H n ρ σ) (h : Dn K Hb v d) : Slots K S Hb H n (ρ.set i (.d d)) (σ.set i (some v)) where
  len := by rw [List.length_set, List.length_set]; exact sl.len
  ok := fun j s e => by
    by_cases hj : i = j
    · subst hj
      have hl : i < ρ.length := by
        have := (List.getElem?_eq_some_iff.mp e).1
        rwa [List.length_set] at this
      rw [List.getElem?_set_self hl] at e
      cases e
      exact ⟨some v, List.getElem?_set_self (by rw [← sl.len]; exact hl), v, rfl, h⟩
    · rw [List.getElem?_set_ne hj] at e
      obtain ⟨o, e1, e2⟩ := sl.ok j s e
      exact ⟨o, by rw [List.getElem?_set_ne hj]; exact e1, e2⟩
  ap := fun j k p xs ys hjk ej ek sj sk => by
    by_cases h1 : i = j
    · subst h1
      have hl : i < ρ.length := by
        have := (List.getElem?_eq_some_iff.mp ej).1
        rwa [List.length_set] at this
      rw [List.getElem?_set_self hl] at ej
      cases ej
    · by_cases h2 : i = k
      · subst h2
        have hl : i < ρ.length := by
          have := (List.getElem?_eq_some_iff.mp ek).1
          rwa [List.length_set] at this
        rw [List.getElem?_set_self hl] at ek
        cases ek
      · rw [List.getElem?_set_ne h1] at ej sj
        rw [List.getElem?_set_ne h2] at ek sk
        exact sl.ap j k p xs ys hjk ej ek sj sk
theorem Slots.forget {ρ : List SV} {σ : L2.St} {i : Nat} {o : Option V} (sl : Slots K S Hb H n ρ σ) : Slots K S Hb H n (ρ.set i .no) (σ.set i o) where
  len := by rw [List.length_set, List.length_set]; exact sl.len
  ok := fun j s e => by
    by_cases hj : i = j
    · subst hj
      have hl : i < ρ.length := by
        have := (List.getElem?_eq_some_iff.mp e).1
        rwa [List.length_set] at this
      rw [List.getElem?_set_self hl] at e
      cases e
      exact ⟨o, List.getElem?_set_self (by rw [← sl.len]; exact hl), trivial⟩
    · rw [List.getElem?_set_ne hj] at e
      obtain ⟨o, e1, e2⟩ := sl.ok j s e
      exact ⟨o, by rw [List.getElem?_set_ne hj]; exact e1, e2⟩
  ap := fun j k p xs ys hjk ej ek sj sk => by
    by_cases h1 : i = j
    · subst h1
      have hl : i < ρ.length := by
        have := (List.getElem?_eq_some_iff.mp ej).1
        rwa [List.length_set] at this
      rw [List.getElem?_set_self hl] at ej
      cases ej
    · by_cases h2 : i = k
      · subst h2
        have hl : i < ρ.length := by
          have := (List.getElem?_eq_some_iff.mp ek).1
          rwa [List.length_set] at this
        rw [List.getElem?_set_self hl] at ek
        cases ek
      · rw [List.getElem?_set_ne h1] at ej sj
        rw [List.getElem?_set_ne h2] at ek sk
        exact sl.ap j k p xs ys hjk ej ek sj sk
def wipeS (ρ : List SV) : List Nat → List SV
  | [] => ρ
  | v :: vs => (wipeS ρ vs).set v .no
theorem Slots.wiped {ρ : List SV} {σ : L2.St} (sl : Slots K S Hb H n ρ σ) : ∀ vs : List Nat, Slots K S Hb H n (wipeS ρ vs) (wipe σ vs)
  | [] => sl
  | v :: vs => (Slots.wiped sl vs).forget

theorem OwF.set {ρ : List SV} {σ : L2.St} {i : Nat} {s : SV} {o : Option V} (f : OwF H0 ρ σ) (hs : isOwn s = false) : OwF H0 (ρ.set i s) (σ.set i o) := fun j xs p e1 eo e2 => by
  by_cases hj : i = j
  · subst hj
    have hl : i < ρ.length := by
      have := (List.getElem?_eq_some_iff.mp e1).1
      rwa [List.length_set] at this
    rw [List.getElem?_set_self hl] at e1
    rw [← Option.some.inj e1, hs] at eo
    cases eo
  · rw [List.getElem?_set_ne hj] at e1 e2
    exact f j xs p e1 eo e2
theorem Sl0.step {ρ : List SV} {σ : L2.St} (a : Stp K T S Hb H n Hb1 H1 n1) (h : Sl0 K S H0 Hb H n ρ σ) : Sl0 K S H0 Hb1 H1 n1 ρ σ := ⟨h.sl.step a, h.fr⟩
theorem Sl0.set {ρ : List SV} {σ : L2.St} {i : Nat} {v : V} {d : D} (sl : Sl0 K S H0 Hb H n ρ σ) (h : Dn K Hb v d) : Sl0 K S H0 Hb H n (ρ.set i (.d d)) (σ.set i (some v)) := ⟨sl.sl.set h, sl.fr.set rfl⟩

theorem NOk.up {Hb0 Hc Hc' : Hp} {n0 : Nat} {P : List SV → Nat → Prop} {Q : L2.St → Hp → Prop} (e : Ex Hc Hc') (h : NOk K T S Hb0 H0 n0 Hc P Q) : NOk K T S Hb0 H0 n0 Hc' P Q := fun ρ σ n' Hb' H' e' => h ρ σ n' Hb' H' (e.trans e')
theorem EOk.up {Hb0 Hc Hc' : Hp} {n0 : Nat} {DD : DEn} {D : Ends} (e : Ex Hc Hc') (h : EOk K T S Hb0 H0 n0 Hc DD D) : EOk K T S Hb0 H0 n0 Hc' DD D := ⟨h.nx.up e, h.rt, h.bk.up e, h.ct.up e⟩
def xsSeq (F G : DTS) : DTS := fun DD ρ n XP => F { DD with nx := fun ρ' n' => G DD ρ' n' XP } ρ n XP
def xsNext : DTS := fun DD ρ n _ => DD.nx ρ n
def xsSet (i : Nat) (F : DT) : DTS := fun DD ρ n XP => F ρ n (fun d n1 => DD.nx (ρ.set i (.d d)) n1) XP
def xsRet (F : DT) : DTS := fun DD ρ n XP => F ρ n DD.rt XP
def xsIf (F : DTT) (G1 G2 : DTS) : DTS := fun DD ρ n XP => F ρ n (fun b n1 => match b with | true => G1 DD ρ n1 XP | false => G2 DD ρ n1 XP) XP
def xsDrop (F : DT) : DTS := fun DD ρ n XP => F ρ n (fun _ n1 => DD.nx ρ n1) XP
variable {t u : TS} {F G : DTS} {te : TE} {FE : DT}
theorem rds_seq (h1 : RdS K T S E t F) (h2 : RdS K T S E u G) : RdS K T S E (tSeq t u) (xsSeq F G) := fun σ ρ Hb0 H0 n0 Hb H n DD XP D a sl h q x =>
  h1 σ ρ Hb0 H0 n0 Hb H n _ XP _ a sl h ⟨fun ρ' σ' n' Hb' H' e s sl' p => h2 σ' ρ' Hb0 H0 n0 Hb' H' n' DD XP D s sl' p (q.up e) x, q.rt, q.bk, q.ct⟩ x
theorem rds_next : RdS K T S E tNext xsNext := fun σ ρ Hb0 H0 n0 Hb H n DD XP D a sl h q x => q.nx ρ σ n Hb H (Ex.refl _) a sl h
theorem rds_set {i : Nat} (h1 : DL.Rd K T S E te FE) : RdS K T S E (tAsg te (gName i)) (xsSet i FE) := fun σ ρ Hb0 H0 n0 Hb H n DD XP D a sl h q x =>
  h1 σ ρ Hb H n _ XP _ a.wd sl.sl h (fun d v n1 Hb1 H1 s hd p => q.nx _ _ n1 Hb1 H1 s.ex (a.trans s) ((sl.step s).set hd) p) (x.step a)
theorem rds_ret (h1 : DL.Rd K T S E te FE) : RdS K T S E (tRet te) (xsRet FE) := fun σ ρ Hb0 H0 n0 Hb H n DD XP D a sl h q x => h1 σ ρ Hb H n _ XP _ a.wd sl.sl h (q.rt.step a) (x.step a)
theorem rds_if {c : TT} {FT : DTT} (hc : RdT K T S E c FT) (h1 : RdS K T S E t F) (h2 : RdS K T S E u G) : RdS K T S E (tIfS c t u) (xsIf FT F G) := fun σ ρ Hb0 H0 n0 Hb H n DD XP D a sl h q x =>
  hc σ ρ Hb H n _ XP _ a.wd sl.sl h (fun b n1 Hb1 H1 s p => by
    cases b with
    | true => exact iteT (h1 σ ρ Hb0 H0 n0 Hb1 H1 n1 _ XP _ (a.trans s) (sl.step s) p (q.up s.ex) x)
    | false => exact iteF (h2 σ ρ Hb0 H0 n0 Hb1 H1 n1 _ XP _ (a.trans s) (sl.step s) p (q.up s.ex) x)) (x.step a)
theorem rds_drop (h1 : DL.Rd K T S E te FE) : RdS K T S E (tDrop te) (xsDrop FE) := fun σ ρ Hb0 H0 n0 Hb H n DD XP D a sl h q x =>
  h1 σ ρ Hb H n _ XP _ a.wd sl.sl h (fun d v n1 Hb1 H1 s hd p => q.nx _ _ n1 Hb1 H1 s.ex (a.trans s) (sl.step s) p) (x.step a)
/-- a, b = e1, e2 -/
def xsPar (i j : Nat) (G : DTA) : DTS := fun DD ρ n XP => G ρ n (fun ss n1 => match ss with | [.d a, .d b] => DD.nx ((ρ.set i (.d a)).set j (.d b)) n1 | _ => False) XP
theorem Args.one {ss : List SV} {vs : List V} {d : D} (h : Args K S Hb H n [.d d] vs) : ∃ v, vs = [v] ∧ Dn K Hb v d := by
  cases h with
  | cons h1 h2 =>
    cases h2
    obtain ⟨_, e, hv⟩ := h1
    cases e
    exact ⟨_, rfl, hv⟩
theorem Args.two {ss : List SV} {vs : List V} {d e : D} (h : Args K S Hb H n [.d d, .d e] vs) : ∃ v u, vs = [v, u] ∧ Dn K Hb v d ∧ Dn K Hb u e := by
  cases h with
  | cons h1 h2 =>
    obtain ⟨u, rfl, hu⟩ := Args.one (ss := []) h2
    obtain ⟨_, e, hv⟩ := h1
    cases e
    exact ⟨_, _, rfl, hv, hu⟩
theorem rds_par {i j : Nat} {ta : TA} {GA : DTA} (h1 : RdA K T S E ta GA) : RdS K T S E (tPar i j ta) (xsPar i j GA) := fun σ ρ Hb0 H0 n0 Hb H n DD XP D a sl h q x =>
  h1 σ ρ Hb H n _ XP _ a.wd sl.sl h (fun ss vs n1 Hb1 H1 s ha p => by
    match ss, ha, p with
    | [.d d1, .d d2], ha, p =>
      obtain ⟨v, u, rfl, hv, hu⟩ := Args.two (ss := []) ha
      exact ⟨v, u, rfl, q.nx _ _ n1 Hb1 H1 s.ex (a.trans s) (((sl.step s).set hv).set hu) p⟩) (x.step a)
/-- raise C('..') -/
def xsRaise (C : Addr) : DTS := fun _ _ n XP => XP C [] [] n
theorem rds_raise {C : Addr} : RdS K T S E (fun _ σ H => E (.ref C) none H) (xsRaise C) := fun σ ρ Hb0 H0 n0 Hb H n DD XP D a sl h q x =>
  x C [] [] n none Hb H a ⟨[], .inl ⟨rfl, rfl⟩, rfl, .nil⟩ h
/-! ### targets -/
abbrev DTG := D → List SV → (List SV → Prop) → Prop
def RdG (K : PySem.W.Frag) (T : Tb) (S : SA) (vs : List Nat) (g : TG) (G : DTG) : Prop :=
  ∀ v d σ ρ H0 Hb H n P Q, World T S Hb H → Sl0 K S H0 Hb H n ρ σ → Dn K Hb v d → G d ρ P → (∀ ρ' σ', Sl0 K S H0 Hb H n ρ' σ' → wipe σ' vs = wipe σ vs → P ρ' → Q σ' H) → g v σ H Q
theorem wipe_set {σ : L2.St} {i : Nat} {o : Option V} : ∀ {vs : List Nat}, i ∈ vs → wipe (σ.set i o) vs = wipe σ vs
  | v :: vs, h => by
    unfold wipe
    by_cases hv : i ∈ vs
    · rw [wipe_set hv]
    · have e : i = v := by
        rcases List.mem_cons.mp h with e | e
        · exact e
        · exact absurd e hv
      subst e
      have z : ∀ {ws : List Nat}, i ∉ ws → (wipe (σ.set i o) ws) = (wipe σ ws).set i o := by
        intro ws
        induction ws with
        | nil => intro _; rfl
        | cons w ws ih =>
          intro hw
          have h1 : i ≠ w := fun e => hw (by rw [e]; exact List.mem_cons_self)
          have h2 : i ∉ ws := fun m => hw (List.mem_cons_of_mem _ m)
          unfold wipe
          rw [ih h2, List.set_comm _ _ h1]
      rw [z hv, List.set_set]
def xgName (i : Nat) : DTG := fun d ρ P => P (ρ.set i (.d d))
theorem rdg_name {i : Nat} {vs : List Nat} (h : i ∈ vs) : RdG K T S vs (gName i) (xgName i) := fun v d σ ρ H0 Hb H n P Q w sl hd p q => q _ _ (sl.set hd) (wipe_set h) p
def xgTwo (i j : Nat) : DTG := fun d ρ P => match d with
  | .tup [a, b] => P ((ρ.set i (.d a)).set j (.d b))
  | _ => False
theorem rdg_two {i j : Nat} {vs : List Nat} (h : i ∈ vs) (h' : j ∈ vs) : RdG K T S vs (gTup K 2 (gCons (gName i) (gCons (gName j) gNil))) (xgTwo i j) := fun v d σ ρ H0 Hb H n P Q w sl hd p q => by
  cases hd with
  | @tup a xs ds h1 h2 =>
    cases h2 with
    | nil => exact p.elim
    | @cons v1 vs1 d1 ds1 g1 g2 =>
      cases g2 with
      | nil => exact p.elim
      | @cons v2 vs2 d2 ds2 g3 g4 =>
        cases g4 with
        | cons _ _ => exact p.elim
        | nil => exact ⟨a, [v1, v2], rfl, ex_t w.ex h1, rfl, v1, [v2], rfl, v2, [], rfl, rfl, q _ _ ((sl.set g1).set g3) (by rw [wipe_set h', wipe_set h]) p⟩
  | _ => exact p.elim

/-! ### what is walked -/
/-- J gives the items ds, one by one; an item may be a new object -/
def SrcOk (K : PySem.W.Frag) (J : It) (Hb0 : Hp) (ds : List D) : Prop :=
  ∀ Hb H (i : Nat), Ex Hb0 Hb → Ex Hb H → (ds.length ≤ i → J.stop i H) ∧ ∀ d, ds[i]? = some d → J.go i H ∧ ∀ x H', J.yld i H x H' →
    (H' = H ∧ Dn K Hb x d) ∨ ∃ p o, H p = none ∧ H' = upd H p o ∧ (∀ ps, o ≠ .tbl ps) ∧ Dn K (upd Hb p o) x d
abbrev DTI := List SV → Nat → (List D → Nat → Prop) → DX → Prop
def RdI (K : PySem.W.Frag) (T : Tb) (S : SA) (E : XK) (wi : TI) (F : DTI) : Prop :=
  ∀ σ ρ Hb H n P XP R, World T S Hb H → Slots K S Hb H n ρ σ → F ρ n P XP → (∀ ds n' Hb' H' J, Stp K T S Hb H n Hb' H' n' → SrcOk K J Hb' ds → P ds n' → R J H') → XOk K T S Hb H n XP E → wi σ H R
theorem src_list {a : Addr} {xs : List V} {ds : List D} (h : SqL K Hb a xs) (hd : DnA K Hb xs ds) : SrcOk K (Itl K a) Hb ds := fun Hb1 H1 i e1 e2 => by
  have h1 := ex_l e2 (ex_l e1 h)
  refine ⟨fun hi => ⟨xs, h1, by rw [hd.len]; exact hi⟩, fun d e => ?_⟩
  obtain ⟨v, ev, hv⟩ := hd.get e
  refine ⟨⟨xs, v, h1, ev⟩, fun x H' y => .inl ⟨y.1, ?_⟩⟩
  have z := y.2 xs h1
  rw [ev] at z
  cases z
  exact hv.up e1
theorem src_tup {a : Addr} {xs : List V} {ds : List D} (h : SqT K Hb a xs) (hd : DnA K Hb xs ds) : SrcOk K (Itt K a) Hb ds := fun Hb1 H1 i e1 e2 => by
  have h1 := ex_t e2 (ex_t e1 h)
  refine ⟨fun hi => ⟨xs, h1, by rw [hd.len]; exact hi⟩, fun d e => ?_⟩
  obtain ⟨v, ev, hv⟩ := hd.get e
  refine ⟨⟨xs, v, h1, ev⟩, fun x H' y => .inl ⟨y.1, ?_⟩⟩
  have z := y.2 xs h1
  rw [ev] at z
  cases z
  exact hv.up e1
def rangeD (lo : Int) (m : Nat) : List D := (List.range m).map fun (i : Nat) => D.int (lo + (i : Int))
theorem src_range {lo : Int} {m : Nat} : SrcOk K (Itr lo m) Hb (rangeD lo m) := fun Hb1 H1 i e1 e2 => by
  refine ⟨fun hi => (by unfold rangeD at hi; simpa using hi : m ≤ i), fun d e => ?_⟩
  have hi : i < m := by
    have := (List.getElem?_eq_some_iff.mp e).1
    unfold rangeD at this
    simpa using this
  refine ⟨hi, fun x H' y => .inl ⟨y.1, ?_⟩⟩
  unfold rangeD at e
  rw [List.getElem?_map, List.getElem?_range hi] at e
  cases e
  rw [y.2]
  exact .int _
def seqD : D → (List D → Prop) → Prop
  | .lst xs, k => k xs
  | .tup xs, k => k xs
  | _, _ => False
theorem rdi_list (h1 : DL.Rd K T S E te FE) : RdI K T S E (iList K te) (fun ρ n P XP => FE ρ n (fun d n1 => match d with | .lst xs => P xs n1 | _ => False) XP) := fun σ ρ Hb H n P XP R w sl h q x =>
  h1 σ ρ Hb H n _ XP _ w sl h (fun d v n1 Hb1 H1 s hd p => by
    cases hd with
    | @lst a xs ds g1 g2 => exact ⟨a, rfl, ⟨xs, ex_l s.wd.ex g1⟩, q ds n1 Hb1 H1 _ s (src_list g1 g2) p⟩
    | _ => exact p.elim) x
theorem rdi_tup (h1 : DL.Rd K T S E te FE) : RdI K T S E (iTup K te) (fun ρ n P XP => FE ρ n (fun d n1 => match d with | .tup xs => P xs n1 | _ => False) XP) := fun σ ρ Hb H n P XP R w sl h q x =>
  h1 σ ρ Hb H n _ XP _ w sl h (fun d v n1 Hb1 H1 s hd p => by
    cases hd with
    | @tup a xs ds g1 g2 => exact ⟨a, rfl, ⟨xs, ex_t s.wd.ex g1⟩, q ds n1 Hb1 H1 _ s (src_tup g1 g2) p⟩
    | _ => exact p.elim) x
def xiRange1 (G : DTA) : DTI := fun ρ n P XP => G ρ n (fun ss n1 => match ss with | [.d (.int j)] => j < 2 ^ 62 ∧ -(2 ^ 62) ≤ j ∧ P (rangeD 0 j.toNat) n1 | _ => False) XP
theorem rdi_range1 {ta : TA} {GA : DTA} (h1 : RdA K T S E ta GA) : RdI K T S E (iRng1 ta) (xiRange1 GA) := fun σ ρ Hb H n P XP R w sl h q x =>
  h1 σ ρ Hb H n _ XP _ w sl h (fun ss vs n1 Hb1 H1 s ha p => by
    match ss, ha, p with
    | [.d (.int j)], ha, p =>
      obtain ⟨v, rfl, hv⟩ := Args.one (ss := []) ha
      cases hv
      exact ⟨j, rfl, p.2.1, p.1, q _ n1 Hb1 H1 _ s src_range p.2.2⟩) x
end
end DL

namespace DL
open L2 PySem PySem.Spec PyProof.Rows
open Evl (Ex ex_l ex_t sz_of)
section
variable {K : PySem.W.Frag} {T : Tb} {S : SA} {E : XK} {Hb H Hb1 H1 : Hp} {n n1 : Nat} {te : TE} {FE : DT}
/-! ### zip of two lists, of two tuples -/
def zipD (xs ys : List D) : List D := (xs.zip ys).map fun p => D.tup [p.1, p.2]
theorem zipD_get {xs ys : List D} {i : Nat} {d : D} (h : (zipD xs ys)[i]? = some d) : ∃ x y, xs[i]? = some x ∧ ys[i]? = some y ∧ d = .tup [x, y] := by
  unfold zipD at h
  rw [List.getElem?_map] at h
  cases e : (xs.zip ys)[i]? with
  | none => rw [e] at h; cases h
  | some p =>
    rw [e] at h
    cases h
    rw [List.getElem?_zip_eq_some] at e
    exact ⟨p.1, p.2, e.1, e.2, rfl⟩
theorem src_zipL {a b : Addr} {xs ys : List V} {ds es : List D} (h : SqL K Hb a xs) (hd : DnA K Hb xs ds) (g : SqL K Hb b ys) (gd : DnA K Hb ys es) : SrcOk K (Itz K a b) Hb (zipD ds es) := fun Hb1 H1 i e1 e2 => by
  have h1 := ex_l e2 (ex_l e1 h)
  have g1 := ex_l e2 (ex_l e1 g)
  refine ⟨fun hi => ⟨xs, ys, h1, g1, ?_⟩, fun d e => ?_⟩
  · unfold zipD at hi
    rw [List.length_map, List.length_zip] at hi
    rw [hd.len, gd.len]
    omega
  · obtain ⟨x, y, ex, ey, rfl⟩ := zipD_get e
    obtain ⟨v, ev, hv⟩ := hd.get ex
    obtain ⟨u, eu, hu⟩ := gd.get ey
    refine ⟨⟨xs, ys, v, u, h1, g1, ev, eu⟩, fun z H' q => ?_⟩
    obtain ⟨p, x', y', rfl, hp, rfl, f1, f2⟩ := q
    have z1 := f1 xs h1
    have z2 := f2 ys g1
    rw [ev] at z1
    rw [eu] at z2
    cases z1
    cases z2
    have ex := Ex.new (o := .tup [v, u]) (free_of e2 hp)
    exact .inr ⟨p, _, hp, rfl, (fun _ z => by cases z), .tup (SqT.of upd_same) (.cons ((hv.up e1).up ex) (.cons ((hu.up e1).up ex) .nil))⟩
theorem src_zipT {a b : Addr} {xs ys : List V} {ds es : List D} (h : SqT K Hb a xs) (hd : DnA K Hb xs ds) (g : SqT K Hb b ys) (gd : DnA K Hb ys es) : SrcOk K (RZ.ItzT K a b) Hb (zipD ds es) := fun Hb1 H1 i e1 e2 => by
  have h1 := ex_t e2 (ex_t e1 h)
  have g1 := ex_t e2 (ex_t e1 g)
  refine ⟨fun hi => ⟨xs, ys, h1, g1, ?_⟩, fun d e => ?_⟩
  · unfold zipD at hi
    rw [List.length_map, List.length_zip] at hi
    rw [hd.len, gd.len]
    omega
  · obtain ⟨x, y, ex, ey, rfl⟩ := zipD_get e
    obtain ⟨v, ev, hv⟩ := hd.get ex
    obtain ⟨u, eu, hu⟩ := gd.get ey
    refine ⟨⟨xs, ys, v, u, h1, g1, ev, eu⟩, fun z H' q => ?_⟩
    obtain ⟨p, x', y', rfl, hp, rfl, f1, f2⟩ := q
    have z1 := f1 xs h1
    have z2 := f2 ys g1
    rw [ev] at z1
    rw [eu] at z2
    cases z1
    cases z2
    have ex := Ex.new (o := .tup [v, u]) (free_of e2 hp)
    exact .inr ⟨p, _, hp, rfl, (fun _ z => by cases z), .tup (SqT.of upd_same) (.cons ((hv.up e1).up ex) (.cons ((hu.up e1).up ex) .nil))⟩
def xiZip (G : DTA) : DTI := fun ρ n P XP => G ρ n (fun ss n1 => match ss with
  | [.d (.lst xs), .d (.lst ys)] => P (zipD xs ys) n1
  | [.d (.tup xs), .d (.tup ys)] => P (zipD xs ys) n1
  | _ => False) XP
theorem rdi_zip {ta : TA} {GA : DTA} (h1 : RdA K T S E ta GA) : RdI K T S E (RZ.iZipA K ta) (xiZip GA) := fun σ ρ Hb H n P XP R w sl h q x =>
  h1 σ ρ Hb H n _ XP _ w sl h (fun ss vs n1 Hb1 H1 s ha p => by
    match ss, ha, p with
    | [.d (.lst xs), .d (.lst ys)], ha, p =>
      obtain ⟨v, u, rfl, hv, hu⟩ := Args.two (ss := []) ha
      cases hv with
      | @lst a as ds g1 g2 =>
        cases hu with
        | @lst b bs es g3 g4 => exact ⟨a, b, as, bs, rfl, .inl ⟨ex_l s.wd.ex g1, ex_l s.wd.ex g3, q _ n1 Hb1 H1 _ s (src_zipL g1 g2 g3 g4) p⟩⟩
    | [.d (.tup xs), .d (.tup ys)], ha, p =>
      obtain ⟨v, u, rfl, hv, hu⟩ := Args.two (ss := []) ha
      cases hv with
      | @tup a as ds g1 g2 =>
        cases hu with
        | @tup b bs es g3 g4 => exact ⟨a, b, as, bs, rfl, .inr ⟨ex_t s.wd.ex g1, ex_t s.wd.ex g3, q _ n1 Hb1 H1 _ s (src_zipT g1 g2 g3 g4) p⟩⟩) x

/-- an item's step -/
theorem item_step {x : V} {d : D} {H' : Hp} (w : World T S Hb H) (h : (H' = H ∧ Dn K Hb x d) ∨ ∃ p o, H p = none ∧ H' = upd H p o ∧ (∀ ps, o ≠ .tbl ps) ∧ Dn K (upd Hb p o) x d) : ∃ Hb', Stp K T S Hb H n Hb' H' n ∧ Dn K Hb' x d := by
  rcases h with ⟨rfl, h⟩ | ⟨p, o, hp, rfl, ho, h⟩
  · exact ⟨Hb, .refl w, h⟩
  · exact ⟨_, .new w hp ho, h⟩

/-! ### for -/
def xsFor (FI : DTI) (G : DTG) (B : DTS) : DTS := fun DD ρ n XP => FI ρ n (fun xs n1 => ∃ I : Nat → List SV → Nat → Prop, I 0 ρ n1 ∧
  (∀ i x ρ n, xs[i]? = some x → I i ρ n → G x ρ fun ρ2 => B { DD with nx := I (i + 1), ct := I (i + 1), bk := DD.nx } ρ2 n XP) ∧ ∀ ρ n, I xs.length ρ n → DD.nx ρ n) XP
theorem rds_for {wi : TI} {g : TG} {tb : TS} {FI : DTI} {G : DTG} {B : DTS} {vs : List Nat} (hi : RdI K T S E wi FI) (hg : RdG K T S vs g G) (hb : RdS K T S E tb B) : RdS K T S E (tFor wi g tb) (xsFor FI G B) := fun σ ρ Hb0 H0 n0 Hb H n DD XP D a sl h q x =>
  hi σ ρ Hb H n _ XP _ a.wd sl.sl h (fun xs n1 Hb1 H1 J s src p => by
    obtain ⟨I, i0, it, ie⟩ := p
    have b := a.trans s
    -- what is frozen at the loop's start stays
    refine ⟨fun i m σ2 H2 => m = xs.length - i ∧ i ≤ xs.length ∧ ∃ ρ2 n2 Hb2, Ex Hb1 Hb2 ∧ Stp K T S Hb0 H0 n0 Hb2 H2 n2 ∧ Sl0 K S H0 Hb2 H2 n2 ρ2 σ2 ∧ I i ρ2 n2, ⟨xs.length, rfl, Nat.zero_le _, ρ, n1, Hb1, Ex.refl _, b, sl.step s, i0⟩, ?_⟩
    rintro i m σ2 H2 ⟨rfl, hi2, ρ2, n2, Hb2, e2, s2, sl2, hI⟩
    obtain ⟨stop, go⟩ := src Hb2 H2 i e2 s2.wd.ex
    by_cases hlt : i < xs.length
    · have ex : xs[i]? = some xs[i] := List.getElem?_eq_getElem hlt
      obtain ⟨hgo, hy⟩ := go _ ex
      refine .inr ⟨hgo, fun σ' H' => ∃ ρ' n' Hb', Ex Hb1 Hb' ∧ Stp K T S Hb0 H0 n0 Hb' H' n' ∧ Sl0 K S H0 Hb' H' n' ρ' σ' ∧ I (i + 1) ρ' n', fun σ' H' hN => ⟨xs.length - (i + 1), by omega, rfl, hlt, hN⟩, fun v H' y => ?_⟩
      obtain ⟨Hb3, s3, hv⟩ := item_step (K := K) (n := n2) s2.wd (hy v H' y)
      refine hg v _ σ2 ρ2 H0 Hb3 H' n2 _ _ s3.wd (sl2.step s3) hv (it i _ ρ2 n2 ex hI) fun ρ3 σ3 sl3 _ hB => ?_
      have e3 := e2.trans s3.ex
      exact hb σ3 ρ3 Hb0 H0 n0 Hb3 H' n2 _ XP _ (s2.trans s3) sl3 hB ⟨fun ρ4 σ4 n4 Hb4 H4 e4 s4 sl4 p4 => ⟨ρ4, n4, Hb4, e3.trans e4, s4, sl4, p4⟩, q.rt, q.nx.up (s.ex.trans e3), fun ρ4 σ4 n4 Hb4 H4 e4 s4 sl4 p4 => ⟨ρ4, n4, Hb4, e3.trans e4, s4, sl4, p4⟩⟩ x
    · have e : i = xs.length := by omega
      subst e
      exact .inl ⟨stop (Nat.le_refl _), q.nx ρ2 σ2 n2 Hb2 H2 (s.ex.trans e2) s2 sl2 (ie ρ2 n2 hI)⟩) (x.step a)

/-! ### comprehensions -/
def compM (step : D → Nat → (Option D → Nat → Prop) → Prop) : List D → Nat → (List D → Nat → Prop) → Prop
  | [], n, P => P [] n
  | x :: xs, n, P => step x n fun o n' => compM step xs n' fun ds n'' => P (match o with | some d => d :: ds | none => ds) n''
def xtYes : DTT := fun _ n P _ => P true n
theorem rdt_yes {E : XK} : RdT K T S E tYes xtYes := fun σ ρ Hb H n P XP Q w sl h q x => q true n Hb H (.refl w) h
theorem wipe_wipe {σ : L2.St} {vs : List Nat} : wipe (wipe σ vs) vs = wipe σ vs := by
  have z : ∀ ws : List Nat, (∀ i ∈ ws, i ∈ vs) → wipe (wipe σ ws) vs = wipe σ vs := by
    intro ws
    induction ws with
    | nil => intro _; rfl
    | cons w ws ih =>
      intro h
      show wipe ((wipe σ ws).set w none) vs = wipe σ vs
      rw [wipe_set (h w List.mem_cons_self), ih fun i hi => h i (List.mem_cons_of_mem _ hi)]
  exact z vs fun _ h => h
/-- what gives a new list, not frozen yet -/
abbrev DTL := List SV → Nat → (List D → Nat → Prop) → DX → Prop
def RdN (K : PySem.W.Frag) (T : Tb) (S : SA) (E : XK) (te : TE) (F : DTL) : Prop :=
  ∀ σ ρ Hb H n P XP (Q : VK), World T S Hb H → Slots K S Hb H n ρ σ → F ρ n P XP →
    (∀ ds p vs n' Hb' H', Stp K T S Hb H n Hb' H' n' → Fresh H p → H' p = some (.lst vs) → Hb' p = none → DnA K Hb' vs ds → P ds n' → Q (.ref p) H') → XOk K T S Hb H n XP E → te σ H Q
def xnLc (FI : DTI) (G : DTG) (FT : DTT) (FE : DT) (vs : List Nat) : DTL := fun ρ n P XP => FI ρ n (fun xs n1 => xs.length ≤ 100000 ∧
  compM (fun x n2 k => G x (wipeS ρ vs) fun ρ2 => FT ρ2 n2 (fun b n3 => match b with | true => FE ρ2 n3 (fun d n4 => k (some d) n4) xF | false => k none n3) xF) xs n1 P) XP
/-- J gives the items while steps of ours are made -/
def SrcJ (K : PySem.W.Frag) (T : Tb) (S : SA) (J : It) (Hb0 H0 : Hp) (n0 : Nat) (ds : List D) : Prop :=
  ∀ Hb H n (i : Nat), Stp K T S Hb0 H0 n0 Hb H n → (ds.length ≤ i → J.stop i H) ∧ ∀ d, ds[i]? = some d → J.go i H ∧ ∀ x H', J.yld i H x H' →
    (H' = H ∧ Dn K Hb x d) ∨ ∃ p o, H p = none ∧ H' = upd H p o ∧ (∀ ps, o ≠ .tbl ps) ∧ Dn K (upd Hb p o) x d
def RdJ (K : PySem.W.Frag) (T : Tb) (S : SA) (E : XK) (wi : TI) (F : DTI) : Prop :=
  ∀ σ ρ Hb H n P XP R, World T S Hb H → Slots K S Hb H n ρ σ → F ρ n P XP → (∀ ds n' Hb' H' J, Stp K T S Hb H n Hb' H' n' → SrcJ K T S J Hb' H' n' ds → P ds n' → R J H') → XOk K T S Hb H n XP E → wi σ H R
theorem rdj_of {wi : TI} {F : DTI} (h : RdI K T S E wi F) : RdJ K T S E wi F := fun σ ρ Hb H n P XP R w sl hf q x =>
  h σ ρ Hb H n P XP R w sl hf (fun ds n' Hb' H' J s src p => q ds n' Hb' H' J s (fun Hb2 H2 n2 i s2 => src Hb2 H2 i s2.ex s2.wd.ex) p) x
/-- over a list of one's own -/
def xjOwn (i : Nat) : DTI := fun ρ n P _ => match ρ[i]? with
  | some (.ol xs) => P xs n
  | _ => False
theorem rdj_own {i : Nat} : RdJ K T S E (iList K (tVar i)) (xjOwn i) := fun σ ρ Hb H n P XP R w sl h q x => by
  unfold xjOwn at h
  split at h
  · rename_i xs e
    obtain ⟨o, e1, p, vs, e2, e3, e4, e5, e6, _, e7⟩ := sl.ok i _ e
    refine ⟨.ref p, by rw [e1, e2], p, rfl, ⟨vs, SqL.of e3⟩, q xs n Hb H _ (.refl w) (fun Hb2 H2 n2 j s2 => ?_) h⟩
    obtain ⟨g1, g2⟩ := s2.own p _ e3 e4 e5 e6 (fun ps z => by cases z)
    have h7 := e7.up s2.ex
    refine ⟨fun hj => ⟨vs, SqL.of g1, by rw [h7.len]; exact hj⟩, fun d ed => ?_⟩
    obtain ⟨v, ev, hv⟩ := h7.get ed
    refine ⟨⟨vs, v, SqL.of g1, ev⟩, fun y H' yy => .inl ⟨yy.1, ?_⟩⟩
    have z := yy.2 vs (SqL.of g1)
    rw [ev] at z
    cases z
    exact hv
  · exact h.elim
theorem rdn_lc {wi : TI} {g : TG} {tt : TT} {FI : DTI} {G : DTG} {FT : DTT} {vs : List Nat} (hi : RdJ K T S E wi FI) (hg : RdG K T S vs g G) (ht : RdT K T S E0 tt FT) (he : DL.Rd K T S E0 te FE) : RdN K T S E (tLc wi g tt te vs) (xnLc FI G FT FE vs) := fun σ ρ Hb H n P XP Q w sl h q x =>
  hi σ ρ Hb H n _ XP _ w sl h (fun xs n1 Hb1 H1 J s src p => by
    obtain ⟨hlen, p⟩ := p
    intro L hL
    have nSa : L ≠ S.a := s.wd.sa.ne (fresh_none hL)
    have nSl : L ≠ S.l := s.wd.sl.ne (fresh_none hL)
    have nSc : L ≠ S.c := s.wd.sc.ne (fresh_none hL)
    refine ⟨fun i m H2 => m = xs.length - i ∧ i ≤ xs.length ∧ ∃ n2 Hb2 accV acc, Stp K T S Hb1 H1 n1 Hb2 H2 n2 ∧ H2 L = some (.lst accV) ∧ Hb2 L = none ∧ DnA K Hb2 accV acc ∧ acc.length ≤ i ∧
      compM (fun x n2 k => G x (wipeS ρ vs) fun ρ2 => FT ρ2 n2 (fun b n3 => match b with | true => FE ρ2 n3 (fun d n4 => k (some d) n4) xF | false => k none n3) xF) (xs.drop i) n2 fun ds n5 => P (acc ++ ds) n5,
      ⟨xs.length, rfl, Nat.zero_le _, n1, Hb1, [], [], .newO s.wd hL, upd_same, free_of s.wd.ex hL, .nil, Nat.le_refl _, p⟩, ?_⟩
    rintro i m H2 ⟨rfl, hi2, n2, Hb2, accV, acc, s2, eL, fL, hacc, la, hc⟩
    obtain ⟨stop, go⟩ := src Hb2 H2 n2 i s2
    by_cases hlt : i < xs.length
    · have ex : xs[i]? = some xs[i] := List.getElem?_eq_getElem hlt
      obtain ⟨hgo, hy⟩ := go _ ex
      have ed : xs.drop i = xs[i] :: xs.drop (i + 1) := List.drop_eq_getElem_cons hlt
      rw [ed] at hc
      refine .inr ⟨hgo, fun H' => ∃ n' Hb' accV acc, Stp K T S Hb1 H1 n1 Hb' H' n' ∧ H' L = some (.lst accV) ∧ Hb' L = none ∧ DnA K Hb' accV acc ∧ acc.length ≤ i + 1 ∧
        compM (fun x n2 k => G x (wipeS ρ vs) fun ρ2 => FT ρ2 n2 (fun b n3 => match b with | true => FE ρ2 n3 (fun d n4 => k (some d) n4) xF | false => k none n3) xF) (xs.drop (i + 1)) n' fun ds n5 => P (acc ++ ds) n5,
        fun H' hN => ⟨xs.length - (i + 1), by omega, rfl, hlt, hN⟩, fun v H' y => ?_⟩
      obtain ⟨Hb3, s3, hv⟩ := item_step (n := n2) s2.wd (hy v H' y)
      have st3 := s2.trans s3
      have sl3 : Sl0 K S (fun _ => none) Hb3 H' n2 (wipeS ρ vs) (wipe σ vs) := ⟨((sl.step s).step st3).wiped vs, fun _ _ _ _ _ _ => fresh_none rfl⟩
      have ne : ∀ ps, HO.lst accV ≠ .tbl ps := fun ps z => by cases z
      refine hg v _ (wipe σ vs) (wipeS ρ vs) _ Hb3 H' n2 _ _ s3.wd sl3 hv hc fun ρ4 σ4 sl4 hw hT => ⟨hw.trans wipe_wipe, ?_⟩
      obtain ⟨eL3, fL3⟩ := s3.own L _ eL fL nSa nSl ne
      refine ht σ4 ρ4 Hb3 H' n2 _ xF _ s3.wd sl4.sl hT (fun b n4 Hb4 H4 s4 p4 => ?_) XOk.none
      obtain ⟨eL4, fL4⟩ := s4.own L _ eL3 fL3 nSa nSl ne
      have hacc4 := (hacc.up s3.ex).up s4.ex
      cases b with
      | false => exact iteF ⟨n4, Hb4, accV, acc, st3.trans s4, eL4, fL4, hacc4, Nat.le_succ_of_le la, p4⟩
      | true =>
        refine iteT ?_
        refine he σ4 ρ4 Hb4 H4 n4 _ xF _ s4.wd (sl4.sl.step s4) p4 (fun d u n5 Hb5 H5 s5 hu p5 => ?_) XOk.none
        obtain ⟨eL5, fL5⟩ := s5.own L _ eL4 fL4 nSa nSl ne
        have hacc5 := hacc4.up s5.ex
        have w5 := s5.wd
        have st5 := (st3.trans s4).trans s5
        have nT : ∀ q ∈ T, q.1 ≠ L := fun q hq z => by
          obtain ⟨ps, e, _⟩ := w5.tabs q hq
          rw [z, eL5] at e
          cases e
        refine ⟨accV, eL5, ?_, n5, Hb5, accV ++ [u], acc ++ [d], ?_, upd_same, fL5, hacc5.app (.one hu), by simp; omega, ?_⟩
        · rw [hacc5.len]
          exact Nat.lt_of_le_of_lt la (Nat.lt_of_lt_of_le hlt (sz_of hlen))
        · -- the list has grown
          refine ⟨st5.ex, ⟨fun b o e => ?_, fun q hq => ?_, w5.tb, ?_, ?_, ?_, w5.nt⟩, fun h0 => ?_, fun b o e1 e2 e3 e4 e5 => ?_, fun b e => st5.dm b (dm_upd (fun _ z => by cases z) b e)⟩
          · rw [upd_ne (fun z => by rw [z, fL5] at e; cases e)]
            exact w5.ex b o e
          · obtain ⟨ps, e, t1, t2⟩ := w5.tabs q hq
            refine ⟨ps, by rw [upd_ne (nT q hq)]; exact e, t1, fun pos cv hcv => ?_⟩
            obtain ⟨c, e1, e2⟩ := t2 pos cv hcv
            refine ⟨c, e1, ?_⟩
            rw [upd_ne (fun z => by rw [z, eL5] at e2; unfold LamX.CodeO at e2; cases e2)]
            exact e2
          · exact w5.sa.upd fun _ z => by cases z
          · exact w5.sl.upd fun _ z => by cases z
          · exact w5.sc.upd fun _ z => by cases z
          · obtain ⟨g1, g2, ls, cs, mm, t, g3, g4, g5, g6, g7, g8, rest⟩ := st5.st h0
            exact ⟨g1, g2, ls, cs, mm, t, g3, g4, g5, by rw [upd_ne nSa.symm]; exact g6, by rw [upd_ne nSl.symm]; exact g7, g8, rest⟩
          · have hb : b ≠ L := ne_of_none e1 hL
            rw [upd_ne hb]
            exact st5.own0 b o e1 e2 e3 e4 e5
        · have e6 : ∀ ds, (acc ++ [d]) ++ ds = acc ++ (d :: ds) := fun ds => by simp
          simp only [e6]
          exact p5
    · have e : i = xs.length := by omega
      subst e
      refine .inl ⟨stop (Nat.le_refl _), ?_⟩
      rw [List.drop_length] at hc
      have hc : P (acc ++ []) n2 := hc
      rw [List.append_nil] at hc
      exact q acc L accV n2 Hb2 H2 (s.trans s2) (s.dm L (fresh_none hL)) eL fL hacc hc) x

/-- an object of one's own is written, then frozen -/
theorem Stp.freeze {p : Addr} {o : HO} (s : Stp K T S Hb H n Hb1 H1 n1) (hp : Fresh H p) (fp : Hb1 p = none) (hx : H1 p ≠ none) (nt : ∀ ps, H1 p ≠ some (.tbl ps)) (nc : ∀ c q, H1 p ≠ some (LamX.CodeO c q)) (na : p ≠ S.a) (nl : p ≠ S.l) (nc2 : p ≠ S.c) (ho : ∀ ps, o ≠ .tbl ps := by intro _ z; cases z) : Stp K T S Hb H n (upd Hb1 p o) (upd H1 p o) n1 := by
  have w := s.wd
  refine ⟨s.ex.trans (Ex.new fp), ⟨fun b u e => ?_, fun q hq => ?_, fun q hq => ?_, ?_, ?_, ?_, nt_upd w.nt ho⟩, fun h0 => ?_, fun b u e1 e2 e3 e4 e5 => ?_, fun b e => s.dm b (dm_upd ho b e)⟩
  · by_cases hb : b = p
    · rw [hb, upd_same] at e ⊢
      exact e
    · rw [upd_ne hb] at e ⊢
      exact w.ex b u e
  · obtain ⟨ps, e, t1, t2⟩ := w.tabs q hq
    refine ⟨ps, by rw [upd_ne (fun z => nt ps (by rw [← z]; exact e))]; exact e, t1, fun pos cv hcv => ?_⟩
    obtain ⟨c, e1, e2⟩ := t2 pos cv hcv
    exact ⟨c, e1, by rw [upd_ne (fun z => nc c q.2 (by rw [← z]; exact e2))]; exact e2⟩
  · obtain ⟨ps, e, _⟩ := w.tabs q hq
    rw [upd_ne (fun z => nt ps (by rw [← z]; exact e))]
    exact w.tb q hq
  · exact w.sa.upd ho
  · exact w.sl.upd ho
  · exact w.sc.upd ho
  · obtain ⟨g1, g2, ls, cs, m, t, g3, g4, g5, g6, g7, g8, rest⟩ := s.st h0
    exact ⟨by rw [upd_ne na.symm]; exact g1, by rw [upd_ne nl.symm]; exact g2, ls, cs, m, t, g3, g4, g5, by rw [upd_ne na.symm]; exact g6, by rw [upd_ne nl.symm]; exact g7, by rw [upd_ne nc2.symm]; exact g8, rest⟩
  · have hb : b ≠ p := hp.ne e1 e5
    rw [upd_ne hb, upd_ne hb]
    exact s.own0 b u e1 e2 e3 e4 e5
theorem World.nS (w : World T S Hb H) {p : Addr} (hp : Fresh H p) : p ≠ S.a ∧ p ≠ S.l ∧ p ≠ S.c := ⟨w.sa.ne hp, w.sl.ne hp, w.sc.ne hp⟩
theorem codeO_no {c : Addr} {q : Str} {o : HO} (h : ∀ φ, o ≠ .ext φ) : o ≠ LamX.CodeO c q := fun z => by
  unfold LamX.CodeO at z
  exact h _ z
theorem rd_of_new {F : DTL} (h : RdN K T S E te F) : DL.Rd K T S E te (fun ρ n P XP => F ρ n (fun ds n1 => P (.lst ds) n1) XP) := fun σ ρ Hb H n P XP Q w sl hf q x =>
  h σ ρ Hb H n _ XP Q w sl hf (fun ds p vs n' Hb' H' s hp e1 e2 hd pp => by
    obtain ⟨n1, n2, n3⟩ := w.nS hp
    have z := s.freeze (o := .lst vs) hp e2 (by rw [e1]; exact fun z => by cases z) (fun ps z => by rw [e1] at z; cases z) (fun c u z => by rw [e1] at z; exact codeO_no (o := .lst vs) (fun _ z => by cases z) (Option.some.inj z)) n1 n2 n3
    have e : upd H' p (.lst vs) = H' := by
      funext b
      by_cases hb : b = p
      · rw [hb, upd_same, e1]
      · rw [upd_ne hb]
    rw [e] at z
    exact q _ _ n' _ _ z (.lst (SqL.of upd_same) (hd.up (Ex.new e2))) pp) x
def xLc (FI : DTI) (G : DTG) (FT : DTT) (FE : DT) (vs : List Nat) : DT := fun ρ n P XP => xnLc FI G FT FE vs ρ n (fun ds n1 => P (.lst ds) n1) XP
theorem rd_lc {wi : TI} {g : TG} {tt : TT} {FI : DTI} {G : DTG} {FT : DTT} {vs : List Nat} (hi : RdJ K T S E wi FI) (hg : RdG K T S vs g G) (ht : RdT K T S E0 tt FT) (he : DL.Rd K T S E0 te FE) : DL.Rd K T S E (tLc wi g tt te vs) (xLc FI G FT FE vs) := rd_of_new (rdn_lc hi hg ht he)
/-- y = [..], a list of one's own -/
def xsSetO (i : Nat) (F : DTL) : DTS := fun DD ρ n XP => F ρ n (fun ds n1 => DD.nx (ρ.set i (.ol ds)) n1) XP
end
end DL

namespace DL
open L2 PySem PySem.Spec PyProof.Rows
open Evl (Ex ex_l ex_t sz_of)
section
variable {K : PySem.W.Frag} {T : Tb} {S : SA} {E : XK} {Hb H Hb1 H1 : Hp} {n n1 : Nat} {te : TE} {FE : DT} {X : Cx}
/-! ### e.f -/
def fldD : List Str → List D → Str → Option D
  | k :: ks, d :: ds, f => if k = f then some d else fldD ks ds f
  | _, _, _ => none
theorem fld_of : ∀ {fs : List (Str × V)} {ns : List Str} {ds : List D} {f : Str} {d : D}, fs.map (·.1) = ns → DnA K H (fs.map (·.2)) ds → fldD ns ds f = some d → ∃ v, fs.lookup f = some v ∧ Dn K H v d
  | [], _, ds, f, d, e, h, g => by
    subst e
    unfold fldD at g
    simp at g
  | (k, v) :: fs, _, ds, f, d, e, h, g => by
    subst e
    cases h with
    | @cons _ _ d0 ds0 h1 h2 =>
      have g : (if k = f then some d0 else fldD (fs.map (·.1)) ds0 f) = some d := g
      by_cases hk : k = f
      · rw [if_pos hk] at g
        cases g
        subst hk
        exact ⟨v, by simp, h1⟩
      · rw [if_neg hk] at g
        obtain ⟨v', e2, h3⟩ := fld_of (ns := fs.map (·.1)) rfl h2 g
        refine ⟨v', ?_, h3⟩
        have hk' : (f == k) = false := by simpa using Ne.symm hk
        rw [List.lookup_cons, hk']
        exact e2
def xFld (K : PySem.W.Frag) (f : Str) (F : DT) : DT := fun ρ n P XP => F ρ n (fun d n1 => match d with
  | .ins C ns ds => NoAttr K C f ∧ ∃ x, fldD ns ds f = some x ∧ P x n1
  | _ => False) XP
theorem rd_fld {f : Str} (h1 : DL.Rd K T S E te FE) : DL.Rd K T S E (tFld K te f) (xFld K f FE) := fun σ ρ Hb H n P XP Q w sl h q x =>
  h1 σ ρ Hb H n _ XP _ w sl h (fun d v n1 Hb1 H1 s hd p => by
    cases hd with
    | @ins a C dx fs ns ds hc g1 g2 g3 =>
      obtain ⟨hn, y, e, p⟩ := p
      obtain ⟨v, e2, hv⟩ := fld_of g2 g3 e
      exact ⟨a, C, dx, fs, v, rfl, s.wd.ex _ _ g1, hc.cl, hn, e2, q _ _ n1 Hb1 H1 s hv p⟩
    | _ => exact p.elim) x
/-! ### isinstance -/
def tyD : D → Value
  | .non => .type "NoneType"
  | .bl _ => .type "bool"
  | .int _ => .type "int"
  | .str _ => .type "str"
  | .lst _ => .type "list"
  | .tup _ => .type "tuple"
  | .dic _ _ => .type "dict"
  | .ins C _ _ => .ref C
  | .exc C _ _ => .ref C
  | .fnv _ => .none
  | .dit _ _ => .none
  | .lam _ => .none
def rIsD (K : PySem.W.Frag) : List V → Hp → VK → Prop := fun xs H Q => rIsi K xs H Q ∨
  ∃ (a C : Addr) (od : Option Addr) (c : V) (u : Value) (b : Bool), xs = [.ref a, c] ∧ ClsV c u ∧ H a = some (ExT C od a) ∧ (∀ dd, od = some dd → ∃ o, H dd = some o) ∧ ExcC K C ∧ PySem.W.kitOne K (.ref C) u = some b ∧ Q (.bl b) H
theorem call_isD : CallR X (.builtin "isinstance") (rIsD X.K) := by
  refine CallR.or call_isi ?_
  intro pins s σ H xs us Q I r h
  obtain ⟨a, C, od, c, u, b, rfl, k, ha, hod, hc, e, q⟩ := h
  obtain ⟨u1, u2, rfl, r1, r2⟩ := vals2 r
  have e2 := k.eq r2
  subst e2
  cases r1
  obtain ⟨⟨oe, vs, h1, ⟨h2, h3⟩, h4⟩, _, _⟩ := I.hok a _ ha
  have hcl : (PySem.W.clsIn X.K C).isSome = true := by
    have z := hc.hd
    unfold PySem.W.hasDictIn at z
    cases q : PySem.W.clsIn X.K C with
    | none => rw [q] at z; cases z
    | some _ => rfl
  have J : ∃ oo, PySem.W.InstAt s.heap a oe C oo := by
    obtain ⟨oc, odd, oda, osl⟩ := oe
    dsimp only at h2 h3 h4
    subst h2 h3 h4
    cases odd with
    | none => exact ⟨none, h1, rfl, rfl, trivial⟩
    | some dd =>
      obtain ⟨o, ho⟩ := hod dd rfl
      obtain ⟨oo, hoo⟩ := objOk_get (I.hok dd o ho)
      exact ⟨some oo, h1, rfl, rfl, hoo⟩
  obtain ⟨oo, J⟩ := J
  exact PySem.W.kia_one (PySem.W.kitx_exc hcl hc.hg hc.hk hc.hs hc.ha hc.hn hc.ht hc.hm) I.kIn J e (fun z => nomatch z) fun tk => ⟨.bl b, H, I.kept (t' := tk) fun _ _ z => z, rfl, q⟩
theorem TyX.of {v : V} {d : D} (h : Dn K H v d) (he : ∀ C ns ds, d ≠ .exc C ns ds) (hf : ∀ f, d ≠ .fnv f) (hg : ∀ ks ds, d ≠ .dit ks ds) (hl : ∀ F, d ≠ .lam F := by intro _ z; cases z) : TyX K H v (tyD d) := by
  cases h with
  | non => exact .base .non
  | bl b => exact .base (.bl b)
  | int i => exact .base (.int i)
  | str i => exact .base (.str i)
  | lst h1 h2 =>
    rcases h1 with (h1 | ⟨o, h1⟩) | ⟨o, its, m, h1, h3, _⟩
    · exact .base (.lst h1)
    · exact .base (.frz h1)
    · exact .kList h1 h3
  | tup h1 h2 =>
    rcases h1 with (h1 | ⟨o, h1⟩) | ⟨o, its, m, h1, h3, _⟩
    · exact .base (.tup h1)
    · exact .fTuple h1
    · exact .kTuple h1 h3
  | dic h1 h2 h3 => exact .base (.dK h1)
  | ins hc h1 h2 h3 => exact .base (.ins h1 hc.cl hc.ha hc.hn hc.ht hc.hm)
  | exc hc ht h1 h2 h3 h4 => exact (he _ _ _ rfl).elim
  | fnv f => exact (hf _ rfl).elim
  | dit _ _ _ => exact (hg _ _ rfl).elim
  | lam _ _ => exact (hl _ rfl).elim
/-- an exception without fields, for isinstance -/
def bareD : D → Prop
  | .fnv _ => False
  | .dit _ _ => False
  | .lam _ => False
  | _ => True
def xIs (K : PySem.W.Frag) (c : Value) (F : DT) : DT := fun ρ n P XP => F ρ n (fun d n1 => bareD d ∧ ∃ b, PySem.W.kitOne K (tyD d) c = some b ∧ P (.bl b) n1) XP
theorem rd_is {cv : V} {cu : Value} (hc : ClsV cv cu) (h1 : DL.Rd K T S E te FE) : DL.Rd K T S E (tCB (rIsD K) (tCons te (tCons (tC cv) tNil))) (xIs K cu FE) := fun σ ρ Hb H n P XP Q w sl h q x =>
  h1 σ ρ Hb H n _ XP _ w sl h (fun d v n1 Hb1 H1 s hd p => by
    obtain ⟨hb, b, e, p⟩ := p
    have fin : Q (.bl b) H1 := q _ _ n1 Hb1 H1 s (.bl b) p
    have hd1 := s.wd.dn hd
    show rIsD K [v, cv] H1 Q
    cases d with
    | exc C ns ds =>
      cases hd1 with
      | @exc a C od fs ns ds hC hT g1 g0 g2 g3 =>
        refine .inr ⟨a, C, od, cv, cu, b, rfl, hc, g1, fun dd ed => ?_, hC, e, fin⟩
        rcases g0 with g0 | ⟨d2, g0, hne, g4⟩
        · rw [g0.1] at ed
          cases ed
        · rw [g0] at ed
          cases ed
          exact ⟨_, g4⟩
    | fnv f => exact hb.elim
    | dit _ _ => exact hb.elim
    | lam _ => exact hb.elim
    | _ => exact .inl ⟨v, cv, _, cu, b, rfl, hc, TyX.of hd1 (fun _ _ _ z => by cases z) (fun _ z => by cases z) (fun _ _ z => by cases z), e, fin⟩) x

/-- isinstance of a built-in class -/
def isTy (t : String) : D → Bool
  | .int _ => t == "int"
  | .bl _ => t == "bool" || t == "int"
  | .str _ => t == "str"
  | .tup _ => t == "tuple"
  | .lst _ => t == "list"
  | .dic _ _ => t == "dict"
  | _ => false
theorem kit_isTy {t : String} (ht : t ∈ ["int", "bool", "str", "tuple", "list", "dict"]) {v : V} {d : D} (h : Dn K H v d) (hb : bareD d) : PySem.W.kitOne K (tyD d) (.type t) = some (isTy t d) := by
  have B : ∀ (a : String), kitB a t = some (if a = "NoneType" then false else if a = "bool" then (t == "bool" || t == "int") else t == a) → PySem.W.kitOne K (.type a) (.type t) = some (if a = "NoneType" then false else if a = "bool" then (t == "bool" || t == "int") else t == a) := fun a e => kit_ty e
  have hB : ∀ a ∈ ["NoneType", "int", "bool", "str", "tuple", "list", "dict"], ∀ t ∈ ["int", "bool", "str", "tuple", "list", "dict"], kitB a t = some (if a = "NoneType" then false else if a = "bool" then (t == "bool" || t == "int") else t == a) := by decide +kernel
  cases h with
  | non => exact B _ (hB "NoneType" (by decide) t ht)
  | bl b => exact B _ (hB "bool" (by decide) t ht)
  | int b => exact B _ (hB "int" (by decide) t ht)
  | str b => exact B _ (hB "str" (by decide) t ht)
  | lst _ _ => exact B _ (hB "list" (by decide) t ht)
  | tup _ _ => exact B _ (hB "tuple" (by decide) t ht)
  | dic _ _ _ => exact B _ (hB "dict" (by decide) t ht)
  | ins hc _ _ _ => exact hc.nt t ht
  | exc hc hn _ _ _ _ => exact hn t ht
  | fnv f => exact hb.elim
  | dit _ _ _ => exact hb.elim
  | lam _ _ => exact hb.elim
def xIsT (t : String) (F : DT) : DT := fun ρ n P XP => F ρ n (fun d n1 => bareD d ∧ P (.bl (isTy t d)) n1) XP
theorem is_end {cv : V} {cu : Value} {b : Bool} {v : V} {d : D} {Q : VK} (hc : ClsV cv cu) (hd : Dn K H v d) (hb : bareD d) (e : PySem.W.kitOne K (tyD d) cu = some b) (fin : Q (.bl b) H) : rIsD K [v, cv] H Q := by
  cases d with
  | exc C ns ds =>
    cases hd with
    | @exc a C od fs ns ds hC hT g1 g0 g2 g3 =>
      refine .inr ⟨a, C, od, cv, cu, b, rfl, hc, g1, fun dd ed => ?_, hC, e, fin⟩
      rcases g0 with g0 | ⟨d2, g0, hne, g4⟩
      · rw [g0.1] at ed
        cases ed
      · rw [g0] at ed
        cases ed
        exact ⟨_, g4⟩
  | fnv f => exact hb.elim
  | dit _ _ => exact hb.elim
  | lam _ => exact hb.elim
  | _ => exact .inl ⟨v, cv, _, cu, b, rfl, hc, TyX.of hd (fun _ _ _ z => by cases z) (fun _ z => by cases z) (fun _ _ z => by cases z), e, fin⟩
theorem rd_isT {t : String} (ht : t ∈ ["int", "bool", "str", "tuple", "list", "dict"]) (h1 : DL.Rd K T S E te FE) : DL.Rd K T S E (tCB (rIsD K) (tCons te (tCons (tC (.ty t)) tNil))) (xIsT t FE) := fun σ ρ Hb H n P XP Q w sl h q x =>
  h1 σ ρ Hb H n _ XP _ w sl h (fun d v n1 Hb1 H1 s hd p => is_end (.ty t) (s.wd.dn hd) p.1 (kit_isTy ht hd p.1) (q _ _ n1 Hb1 H1 s (.bl _) p.2)) x
/-! ### displays of dicts -/
def xPairs : List (DT × DT) → List SV → Nat → (List Key → List D → Nat → Prop) → DX → Prop
  | [], _, n, P, _ => P [] [] n
  | (F, G) :: r, ρ, n, P, XP => F ρ n (fun a n1 => ∃ k, keyD a = some k ∧ G ρ n1 (fun d n2 => xPairs r ρ n2 (fun ks ds n3 => P (k :: ks) (d :: ds) n3) XP) XP) XP
def xDisp (prs : List (DT × DT)) : DT := fun ρ n P XP => xPairs prs ρ n (fun ks ds n1 => ks.Nodup ∧ ks.length ≤ 15 ∧ P (.dic ks ds) n1) XP
inductive RdP (K : PySem.W.Frag) (T : Tb) (S : SA) (E : XK) : List (TE × TE) → List (DT × DT) → Prop
  | nil : RdP K T S E [] []
  | cons {tk tv : TE} {F G : DT} {trs : List (TE × TE)} {prs : List (DT × DT)} : DL.Rd K T S E tk F → DL.Rd K T S E tv G → RdP K T S E trs prs → RdP K T S E ((tk, tv) :: trs) ((F, G) :: prs)
theorem key_rel {v : V} {d : D} {k : Key} (h : Dn K H v d) (e : keyD d = some k) : v = kV k := by
  cases h with
  | int i => cases e; rfl
  | str i => cases e; rfl
  | _ => cases e
theorem rd_pairs {trs : List (TE × TE)} {prs : List (DT × DT)} (h : RdP K T S E trs prs) : ∀ {σ : L2.St} {ρ : List SV} {Hb H : Hp} {n : Nat} {P : List Key → List D → Nat → Prop} {XP : DX} {Q : List (V × V) → Hp → Prop}, World T S Hb H → Slots K S Hb H n ρ σ →
    xPairs prs ρ n P XP → (∀ (kvs : List (Key × V)) (ks : List Key) (ds : List D) (n' : Nat) (Hb' H' : Hp), Stp K T S Hb H n Hb' H' n' → kvs.map (·.1) = ks → DnA K Hb' (kvs.map (·.2)) ds → P ks ds n' → Q (kvs.map fun kv => (kV kv.1, kv.2)) H') → XOk K T S Hb H n XP E → tPairs trs σ H Q := by
  induction h with
  | nil => exact fun w sl p q x => q [] [] [] _ _ _ (.refl w) rfl .nil p
  | @cons tk tv F G trs prs h1 h2 _ ih =>
    intro σ ρ Hb H n P XP Q w sl p q x
    refine h1 σ ρ Hb H n _ XP _ w sl p (fun a v n1 Hb1 H1 s hv p1 => ?_) x
    obtain ⟨k, ek, p1⟩ := p1
    refine h2 σ ρ Hb1 H1 n1 _ XP _ s.wd (sl.step s) p1 (fun d u n2 Hb2 H2 s2 hu p2 => ?_) (x.step s)
    refine ih s2.wd ((sl.step s).step s2) p2 (fun kvs ks ds n3 Hb3 H3 s3 e3 h3 p3 => ?_) ((x.step s).step s2)
    have z := q ((k, u) :: kvs) (k :: ks) (d :: ds) n3 Hb3 H3 ((s.trans s2).trans s3) (by rw [List.map_cons, e3]) (.cons (hu.up s3.ex) h3) p3
    rw [key_rel hv ek]
    exact z
theorem merge_nodup : ∀ {kvs acc : List (Key × V)}, ((acc ++ kvs).map (·.1)).Nodup → mergeK acc kvs = acc ++ kvs
  | [], acc, _ => by simp [mergeK]
  | (k, v) :: kvs, acc, h => by
    have e : putK acc k v = acc ++ [(k, v)] := by
      refine putK_new v ?_
      cases q : valV acc k with
      | none => rfl
      | some u =>
        rw [List.map_append, List.nodup_append] at h
        have hm : k ∈ acc.map (·.1) := by
          unfold valV at q
          cases f : acc.find? fun kv => decide (kv.1 = k) with
          | none => rw [f] at q; cases q
          | some kv =>
            have h1 := List.mem_of_find?_eq_some f
            have h2 := List.find?_some f
            simp at h2
            exact List.mem_map.mpr ⟨kv, h1, h2⟩
        exact absurd rfl (h.2.2 k hm k (by simp))
    show mergeK (putK acc k v) kvs = _
    rw [e, merge_nodup (acc := acc ++ [(k, v)]) (by simpa using h)]
    simp
theorem rd_disp {trs : List (TE × TE)} {prs : List (DT × DT)} (h : RdP K T S E trs prs) : DL.Rd K T S E (tDisp trs) (xDisp prs) := fun σ ρ Hb H n P XP Q w sl hp q x p hn => by
  have s0 : Stp K T S Hb H n Hb (upd H p (.dK [])) n := .newO w hn
  obtain ⟨n1, n2, n3⟩ := w.nS (fresh_none hn)
  refine rd_pairs h s0.wd (sl.step s0) hp (fun kvs ks ds n' Hb' H' s ek hd p1 => ?_) (x.step s0)
  obtain ⟨hnd, hl, p1⟩ := p1
  obtain ⟨g1, g2⟩ := s.own p _ upd_same (free_of w.ex hn) n1 n2 (fun ps z => by cases z)
  have el : kvs.length = ks.length := by rw [← ek, List.length_map]
  refine ⟨g1, kvs, rfl, by omega, ?_⟩
  have em : mergeK [] kvs = kvs := by
    rw [merge_nodup (by rw [List.nil_append, ek]; exact hnd)]
    rfl
  rw [em]
  refine q _ _ n' _ _ ((s0.trans s).freeze (o := .dK kvs) (fresh_none hn) g2 (by rw [g1]; exact fun z => by cases z) (fun ps z => by rw [g1] at z; cases z) (fun c u z => by rw [g1] at z; exact codeO_no (o := .dK []) (fun _ z => by cases z) (Option.some.inj z)) n1 n2 n3) (.dic upd_same ek (hd.up (Ex.new g2))) p1
def xDNew : DT := fun _ n P _ => P (.dic [] []) n
theorem rd_dnew : DL.Rd K T S E tDNewK xDNew := fun σ ρ Hb H n P XP Q w sl h q x p hp => q.new w hp (.dic upd_same rfl .nil) h
end
end DL

/-! defs by their promise on data -/
namespace DL
open L2 PySem PySem.Spec PyProof.Rows
open Evl (Ex ex_l ex_t sz_of)
def startS (N : List Str) (ss : List SV) : List SV := ss ++ List.replicate (N.length - ss.length) .no
def noOl : List SV → Bool
  | [] => true
  | .ol _ :: _ => false
  | .me _ _ _ _ :: _ => false
  | .od _ _ :: _ => false
  | .ot _ _ :: _ => false
  | _ :: ss => noOl ss
def noL : List SV → Bool
  | [] => true
  | .ol _ :: _ => false
  | _ :: ss => noL ss
theorem noL_of : ∀ {ss : List SV}, noOl ss = true → noL ss = true
  | [], _ => rfl
  | .ol _ :: _, h => by exact (Bool.noConfusion h)
  | .me _ _ _ _ :: _, h => by exact (Bool.noConfusion h)
  | .od _ _ :: _, h => by exact (Bool.noConfusion h)
  | .ot _ _ :: _, h => by exact (Bool.noConfusion h)
  | .fv _ :: ss, h => noL_of (ss := ss) h
  | .no :: ss, h => noL_of (ss := ss) h
  | .st :: ss, h => noL_of (ss := ss) h
  | .d _ :: ss, h => noL_of (ss := ss) h
section
variable {K : PySem.W.Frag} {T : Tb} {S : SA} {E : XK} {Hb H Hb1 H1 : Hp} {n n1 : Nat} {X : Cx}
theorem Args.get : ∀ {ss : List SV} {vs : List V} {i : Nat} {s : SV}, Args K S Hb H n ss vs → ss[i]? = some s → ∃ v, vs[i]? = some v ∧ SlotOk K S Hb H n s (some v)
  | [], _, i, s, _, e => by simp at e
  | s :: ss, _, 0, s', h, e => by
    cases h with
    | cons h1 h2 =>
      simp at e
      subst e
      exact ⟨_, rfl, h1⟩
  | s :: ss, _, i + 1, s', h, e => by
    cases h with
    | cons h1 h2 => exact Args.get (i := i) h2 (by simpa using e)
theorem noOl_get : ∀ {ss : List SV} {i : Nat} {s : SV}, noOl ss = true → ss[i]? = some s → isOwn s = false
  | [], i, s, _, e => by simp at e
  | .no :: _, 0, s, h, e => by simp at e; subst e; rfl
  | .st :: _, 0, s, h, e => by simp at e; subst e; rfl
  | .d _ :: _, 0, s, h, e => by simp at e; subst e; rfl
  | .ol _ :: _, _, s, h, e => by exact Bool.noConfusion h
  | .me _ _ _ _ :: _, _, s, h, e => by exact Bool.noConfusion h
  | .od _ _ :: _, _, s, h, e => by exact Bool.noConfusion h
  | .ot _ _ :: _, _, s, h, e => by exact Bool.noConfusion h
  | .fv _ :: _, 0, s, h, e => by simp at e; subst e; rfl
  | .fv _ :: ss, i + 1, s, h, e => noOl_get (ss := ss) (i := i) h (by simpa using e)
  | .no :: ss, i + 1, s, h, e => noOl_get (ss := ss) (i := i) h (by simpa using e)
  | .st :: ss, i + 1, s, h, e => noOl_get (ss := ss) (i := i) h (by simpa using e)
  | .d _ :: ss, i + 1, s, h, e => noOl_get (ss := ss) (i := i) h (by simpa using e)
theorem noL_get : ∀ {ss : List SV} {i : Nat} {xs : List D}, noL ss = true → ss[i]? ≠ some (.ol xs)
  | [], i, xs, _ => by simp
  | s :: ss, 0, xs, h => by
    intro e
    simp at e
    subst e
    exact absurd h (by simp [noL])
  | s :: ss, i + 1, xs, h => by
    have h' : noL ss = true := by cases s <;> first | exact h | (exact absurd h (by simp [noL]))
    simpa using noL_get (i := i) h'
theorem start_cases {N : List Str} {ss : List SV} {i : Nat} {s : SV} (ei : (startS N ss)[i]? = some s) : ss[i]? = some s ∨ s = .no := by
  unfold startS at ei
  by_cases hi : i < ss.length
  · rw [List.getElem?_append_left hi] at ei
    exact .inl ei
  · rw [List.getElem?_append_right (by omega), List.getElem?_replicate] at ei
    split at ei
    · exact .inr (Option.some.inj ei).symm
    · cases ei
theorem start_no {N : List Str} {ss : List SV} {i : Nat} {xs : List D} (ho : noL ss = true) (ei : (startS N ss)[i]? = some (.ol xs)) : False := by
  rcases start_cases ei with h | h
  · exact absurd h (noL_get ho)
  · cases h
theorem start_fr {N : List Str} {ss : List SV} {σ : L2.St} {H0 : Hp} (ho : noOl ss = true) : OwF H0 (startS N ss) σ := fun _ _ _ ei eo _ => by
  rcases start_cases ei with h | h
  · rw [noOl_get ho h] at eo
    cases eo
  · subst h
    cases eo
theorem Slots.start {N : List Str} {ss : List SV} {vs : List V} (h : Args K S Hb H n ss vs) (ho : noL ss = true) : Slots K S Hb H n (startS N ss) (L2.start N vs) where
  len := by
    unfold startS L2.start
    rw [List.length_append, List.length_append, List.length_map, List.length_replicate, List.length_replicate, h.len]
  ok := fun i s e => by
    unfold startS at e
    unfold L2.start
    have hl := h.len
    by_cases hi : i < ss.length
    · rw [List.getElem?_append_left hi] at e
      obtain ⟨v, ev, hv⟩ := h.get e
      refine ⟨some v, ?_, hv⟩
      rw [List.getElem?_append_left (by rw [List.length_map, ← hl]; exact hi), List.getElem?_map, ev]
      rfl
    · rw [List.getElem?_append_right (by omega)] at e
      have es : s = .no := by
        rw [List.getElem?_replicate] at e
        split at e
        · exact (Option.some.inj e).symm
        · cases e
      subst es
      have hlt : i - ss.length < N.length - ss.length := by
        have := (List.getElem?_eq_some_iff.mp e).1
        simpa using this
      refine ⟨none, ?_, trivial⟩
      rw [List.getElem?_append_right (by rw [List.length_map]; omega), List.length_map, List.getElem?_replicate, if_pos (by omega)]
  ap := fun i j p xs ys _ ei _ _ _ => (start_no ho ei).elim

/-- a promise on data, no error -/
abbrev DSp0 := List SV → Nat → DQ → Prop
def sp0 (K : PySem.W.Frag) (T : Tb) (DS : DSp0) : Sp := spOf K T (fun ss n P _ => noOl ss = true ∧ DS ss n P)
def spX (K : PySem.W.Frag) (T : Tb) (DS : DSp) : Sp := spOf K T (fun ss n P XP => noOl ss = true ∧ DS ss n P XP)
variable {P : Program} {w : PySem.World} {mg : Str → Option Value} {base : Heap}
theorem _root_.L2.Fun.okD {x qual : Str} {st : Stmt} {f : Addr} {fd : FuncData} {N ps : List Str} {k : Nat} {DS : DSp0} (F : Fun K x qual st f fd) (Sc : FnScope N ps (defScope st)) (len : ∀ ss n P, DS ss n P → ss.length = ps.length)
    (hb : ∀ (S : SA) (cdv : Value) (A : Around) (outer : List Env) (s : Shared) (H : Hp) (E : XK), Room k (A.deeper (envOfC qual (defScope st) s.heap.objs.size f cdv)) →
      ∃ ts G, PSs (cxOf CX0 P w K mg base N qual (defScope st) f cdv A outer s H E).nox (defBody st) ts ∧ RdS K T S E0 ts G ∧ ∀ ss n P, DS ss n P → G { nx := fun _ n => P .non n, rt := P } (startS N ss) n xF) :
    FnOk P w K mg base CX0 (k + 1) f fd ps (sp0 K T DS) := by
  refine F.ok Sc (fun vs H Q E h => ?_) (fun cdv A outer s H vs Q E hr h => ?_)
  · obtain ⟨S, Hb, n, ss, P, XP, _, ha, ⟨_, hd⟩, _⟩ := h
    rw [← ha.len]
    exact len ss n P hd
  · obtain ⟨S, Hb, n, ss, P, XP, wd, ha, ⟨ho, hd⟩, q, _⟩ := h
    obtain ⟨ts, G, h1, h2, h3⟩ := hb S cdv A outer s H E hr
    refine ⟨ts, h1, h2 _ _ Hb H n Hb H n _ xF _ (.refl wd) ⟨.start ha (noL_of ho), start_fr ho⟩ (h3 ss n P hd) ⟨fun ρ σ n' Hb' H' _ st _ p => q _ _ _ _ _ st .non p, q, fun _ _ _ _ _ _ _ _ p => p.elim, fun _ _ _ _ _ _ _ _ p => p.elim⟩ .none⟩
theorem _root_.L2.Fun.okXD {x qual : Str} {st : Stmt} {f : Addr} {fd : FuncData} {N ps : List Str} {k : Nat} {DS : DSp} (F : Fun K x qual st f fd) (Sc : FnScope N ps (defScope st)) (len : ∀ ss n P XP, DS ss n P XP → ss.length = ps.length)
    (hb : ∀ (S : SA) (cdv : Value) (A : Around) (outer : List Env) (s : Shared) (H : Hp) (E : XK), Room k (A.deeper (envOfC qual (defScope st) s.heap.objs.size f cdv)) →
      ∃ ts G, PSs (cxOf (L2.CX P w) P w K mg base N qual (defScope st) f cdv A outer s H E) (defBody st) ts ∧ RdS K T S E ts G ∧ ∀ ss n P XP, DS ss n P XP → G { nx := fun _ n => P .non n, rt := P } (startS N ss) n XP) :
    FnOk P w K mg base (L2.CX P w) (k + 1) f fd ps (spX K T DS) := by
  refine F.okX Sc (fun vs H Q E h => ?_) (fun cdv A outer s H vs Q E hr h => ?_)
  · obtain ⟨S, Hb, n, ss, P, XP, _, ha, ⟨_, hd⟩, _⟩ := h
    rw [← ha.len]
    exact len ss n P XP hd
  · obtain ⟨S, Hb, n, ss, P, XP, wd, ha, ⟨ho, hd⟩, q, x⟩ := h
    obtain ⟨ts, G, h1, h2, h3⟩ := hb S cdv A outer s H E hr
    refine ⟨ts, h1, h2 _ _ Hb H n Hb H n _ XP _ (.refl wd) ⟨.start ha (noL_of ho), start_fr ho⟩ (h3 ss n P XP hd) ⟨fun ρ σ n' Hb' H' _ st _ p => q _ _ _ _ _ st .non p, q, fun _ _ _ _ _ _ _ _ p => p.elim, fun _ _ _ _ _ _ _ _ p => p.elim⟩ x⟩

/-! ### calls -/
def xCall0 (DS : DSp0) (G : DTA) : DT := fun ρ n P XP => G ρ n (fun ss n1 => noOl ss = true ∧ DS ss n1 P) XP
def xCallX (DS : DSp) (G : DTA) : DT := fun ρ n P XP => G ρ n (fun ss n1 => noOl ss = true ∧ DS ss n1 P XP) XP
theorem rd_call0 {DS : DSp0} {ta : TA} {G : DTA} {E : XK} {E' : XK} (h : RdA K T S E' ta G) : DL.Rd K T S E' (tCall (sp0 K T DS) [] E ta) (xCall0 DS G) := fun σ ρ Hb H n P XP Q w sl hf q x =>
  h σ ρ Hb H n _ XP _ w sl hf (fun ss vs n1 Hb1 H1 s ha p => by
    show sp0 K T DS (vs ++ []) H1 Q E
    rw [List.append_nil]
    exact ⟨S, Hb1, n1, ss, P, xF, s.wd, ha, p, q.step s, .none⟩) x
theorem rd_callX {DS : DSp} {ta : TA} {G : DTA} (h : RdA K T S E ta G) : DL.Rd K T S E (tCall (spX K T DS) [] E ta) (xCallX DS G) := fun σ ρ Hb H n P XP Q w sl hf q x =>
  h σ ρ Hb H n _ XP _ w sl hf (fun ss vs n1 Hb1 H1 s ha p => by
    show spX K T DS (vs ++ []) H1 Q E
    rw [List.append_nil]
    exact ⟨S, Hb1, n1, ss, P, XP, s.wd, ha, p, q.step s, x.step s⟩) x
/-- a def that may raise, called where it does not -/
theorem rd_callN {DS : DSp} {ta : TA} {G : DTA} {E' : XK} (h : RdA K T S E' ta G) : DL.Rd K T S E' (tCall (spX K T DS) [] E0 ta) (fun ρ n P XP => G ρ n (fun ss n1 => noOl ss = true ∧ DS ss n1 P xF) XP) := fun σ ρ Hb H n P XP Q w sl hf q x =>
  h σ ρ Hb H n _ XP _ w sl hf (fun ss vs n1 Hb1 H1 s ha p => by
    show spX K T DS (vs ++ []) H1 Q E0
    rw [List.append_nil]
    exact ⟨S, Hb1, n1, ss, P, xF, s.wd, ha, p, q.step s, .none⟩) x
end
end DL

/-! how a def stands behind the top; the first words for goals on data -/
namespace DL
open L2 PySem PySem.Spec PyProof.Rows
/-- a def of the text as the top leaves it -/
def DefAt (K : PySem.W.Frag) (mg : Str → Option Value) (name : Str) (st : Stmt) (ps : List Str) : Prop :=
  ∃ f fd, Fun K name name st f fd ∧ mg name = some (.ref f) ∧ PySem.W.keepIn K (.ref f) = true ∧ Binds K fd ps []
/-- a def with its promise -/
def Has (P : Program) (w : PySem.World) (K : PySem.W.Frag) (mg : Str → Option Value) (base : Heap) (CX : CXT) (k : Nat) (name : Str) (ps : List Str) (sp : Sp) : Prop :=
  ∃ f fd, FnOk P w K mg base CX k f fd ps sp ∧ mg name = some (.ref f) ∧ PySem.W.keepIn K (.ref f) = true ∧ Binds K fd ps []
theorem slotD_zero {x : D} {ρ : List SV} {k : D → Prop} : slotD (.d x :: ρ) 0 k = k x := rfl
theorem slotD_succ {s : SV} {ρ : List SV} {i : Nat} {k : D → Prop} : slotD (s :: ρ) (i + 1) k = slotD ρ i k := rfl
def isInt : D → Bool
  | .int _ => true
  | _ => false
end DL

/-! lists of one's own -/
namespace DL
open L2 PySem PySem.Spec PyProof.Rows
open Evl (Ex ex_l ex_t sz_of)
section
variable {K : PySem.W.Frag} {T : Tb} {S : SA} {E : XK} {Hb H Hb1 H1 : Hp} {n n1 : Nat} {te : TE} {FE : DT}
def slotO (ρ : List SV) (i : Nat) (k : List D → Prop) : Prop := match ρ[i]? with
  | some (.ol x) => k x
  | _ => False
theorem slotO_zero {x : List D} {ρ : List SV} {k : List D → Prop} : slotO (.ol x :: ρ) 0 k = k x := rfl
theorem slotO_succ {s : SV} {ρ : List SV} {i : Nat} {k : List D → Prop} : slotO (s :: ρ) (i + 1) k = slotO ρ i k := rfl
theorem Slots.own {ρ : List SV} {σ : L2.St} {i : Nat} {k : List D → Prop} (sl : Slots K S Hb H n ρ σ) (h : slotO ρ i k) : ∃ xs p vs, ρ[i]? = some (.ol xs) ∧ σ[i]? = some (some (.ref p)) ∧ H p = some (.lst vs) ∧ Hb p = none ∧ p ≠ S.a ∧ p ≠ S.l ∧ p ≠ S.c ∧ DnA K Hb vs xs ∧ k xs := by
  unfold slotO at h
  cases e : ρ[i]? with
  | none => rw [e] at h; exact h.elim
  | some s =>
    rw [e] at h
    cases s with
    | ol xs =>
      obtain ⟨o, e1, p, vs, e2, e3, e4, e5, e6, e8, e7⟩ := sl.ok i _ e
      exact ⟨xs, p, vs, rfl, by rw [e1, e2], e3, e4, e5, e6, e8, e7, h⟩
    | no => exact h.elim
    | st => exact h.elim
    | d x => exact h.elim
    | me _ _ _ _ => exact h.elim
    | od _ _ => exact h.elim
    | ot _ _ => exact h.elim
    | fv _ => exact h.elim
/-- a slot gets a list of one's own -/
theorem Slots.setO {ρ : List SV} {σ : L2.St} {i : Nat} {p : Addr} {vs : List V} {xs : List D} (sl : Slots K S Hb H n ρ σ) (h1 : H p = some (.lst vs)) (h2 : Hb p = none) (h3 : p ≠ S.a) (h4 : p ≠ S.l) (h4c : p ≠ S.c) (h5 : DnA K Hb vs xs)
    (fr : ∀ (j : Nat) (ys : List D), ρ[j]? = some (.ol ys) → σ[j]? ≠ some (some (.ref p))) : Slots K S Hb H n (ρ.set i (.ol xs)) (σ.set i (some (.ref p))) where
  len := by rw [List.length_set, List.length_set]; exact sl.len
  ok := fun j s e => by
    by_cases hj : i = j
    · subst hj
      have hl : i < ρ.length := by
        have := (List.getElem?_eq_some_iff.mp e).1
        rwa [List.length_set] at this
      rw [List.getElem?_set_self hl] at e
      cases e
      exact ⟨_, List.getElem?_set_self (by rw [← sl.len]; exact hl), p, vs, rfl, h1, h2, h3, h4, h4c, h5⟩
    · rw [List.getElem?_set_ne hj] at e
      obtain ⟨o, e1, e2⟩ := sl.ok j s e
      exact ⟨o, by rw [List.getElem?_set_ne hj]; exact e1, e2⟩
  ap := fun j k q ys zs hjk ej ek sj sk => by
    by_cases hj : i = j
    · subst hj
      have hk : i ≠ k := hjk
      rw [List.getElem?_set_ne hk] at ek sk
      have hl : i < ρ.length := by
        have := (List.getElem?_eq_some_iff.mp ej).1
        rwa [List.length_set] at this
      rw [List.getElem?_set_self (by rw [← sl.len]; exact hl)] at sj
      have eq : p = q := V.ref.inj (Option.some.inj (Option.some.inj sj))
      subst eq
      exact fr k zs ek sk
    · by_cases hk : i = k
      · subst hk
        rw [List.getElem?_set_ne hj] at ej sj
        have hl : i < ρ.length := by
          have := (List.getElem?_eq_some_iff.mp ek).1
          rwa [List.length_set] at this
        rw [List.getElem?_set_self (by rw [← sl.len]; exact hl)] at sk
        have eq : p = q := V.ref.inj (Option.some.inj (Option.some.inj sk))
        subst eq
        exact fr j ys ej sj
      · rw [List.getElem?_set_ne hj] at ej sj
        rw [List.getElem?_set_ne hk] at ek sk
        exact sl.ap j k q ys zs hjk ej ek sj sk
/-- the step that rewrites a list of one's own; what others hold stays -/
theorem own_write {ρ : List SV} {σ : L2.St} {i : Nat} {p : Addr} {vs us : List V} {xs ys : List D} (w : World T S Hb H) (sl : Slots K S Hb H n ρ σ) (ei : ρ[i]? = some (.ol xs)) (es : σ[i]? = some (some (.ref p))) (h1 : H p = some (.lst vs)) (h2 : Hb p = none) (h3 : p ≠ S.a) (h4 : p ≠ S.l)
    (h6 : DnA K Hb us ys) (hpc : p ≠ S.c) : World T S Hb (upd H p (.lst us)) ∧ Slots K S Hb (upd H p (.lst us)) n (ρ.set i (.ol ys)) σ := by
  have hnt : ∀ q ∈ T, q.1 ≠ p := fun q hq z => by
    obtain ⟨ps, e, _⟩ := w.tabs q hq
    rw [z, h1] at e
    cases e
  have keep : ∀ {b : Addr} {o : HO}, H b = some o → b ≠ p → upd H p (.lst us) b = some o := fun e hb => by rw [upd_ne hb]; exact e
  refine ⟨⟨fun b o e => keep (w.ex b o e) (fun z => by rw [z, h2] at e; cases e), fun q hq => ?_, w.tb, ?_, ?_, ?_, w.nt⟩, ?_⟩
  · obtain ⟨ps, e, t1, t2⟩ := w.tabs q hq
    refine ⟨ps, keep e (hnt q hq), t1, fun pos cv hcv => ?_⟩
    obtain ⟨c, e1, e2⟩ := t2 pos cv hcv
    exact ⟨c, e1, keep e2 (fun z => by rw [z, h1] at e2; exact codeO_no (o := .lst vs) (fun _ z => by cases z) (Option.some.inj e2))⟩
  · exact w.sa.upd fun _ z => by cases z
  · exact w.sl.upd fun _ z => by cases z
  · exact w.sc.upd fun _ z => by cases z
  · refine ⟨by rw [List.length_set]; exact sl.len, fun j s e => ?_, fun j k q y z hjk ej ek sj sk => ?_⟩
    · by_cases hj : i = j
      · subst hj
        have hl : i < ρ.length := (List.getElem?_eq_some_iff.mp ei).1
        rw [List.getElem?_set_self hl] at e
        cases e
        exact ⟨_, es, p, us, rfl, upd_same, h2, h3, h4, hpc, h6⟩
      · rw [List.getElem?_set_ne hj] at e
        obtain ⟨o, e1, e2⟩ := sl.ok j s e
        refine ⟨o, e1, ?_⟩
        cases s with
        | no => trivial
        | d x => exact e2
        | st =>
          obtain ⟨e3, st⟩ := e2
          obtain ⟨g1, g2, ls, cs, m, t, g3, g4, g5, g6, g7, g8, rest⟩ := st
          exact ⟨e3, g1, g2, ls, cs, m, t, g3, g4, g5, keep g6 h3.symm, keep g7 h4.symm, g8, rest⟩
        | ol zs =>
          obtain ⟨q, ws, e3, e4, e5, e6, e7, e9, e8⟩ := e2
          have hqp : q ≠ p := fun z => by
            subst z
            exact sl.ap i j q xs zs hj ei e es (by rw [e1, e3])
          exact ⟨q, ws, e3, keep e4 hqp, e5, e6, e7, e9, e8⟩
        | me y C ms es2 =>
          obtain ⟨e3, dx, fs, e4, rest⟩ := e2
          exact ⟨e3, dx, fs, keep e4 (fun z => by rw [z, h1] at e4; cases e4), rest⟩
        | od ks es2 =>
          obtain ⟨q, kvs, e3, e4, rest⟩ := e2
          exact ⟨q, kvs, e3, keep e4 (fun z => by rw [z, h1] at e4; cases e4), rest⟩
        | ot ks es2 =>
          obtain ⟨q, kvs, e3, e4, rest⟩ := e2
          exact ⟨q, kvs, e3, keep e4 (fun z => by rw [z, h1] at e4; cases e4), rest⟩
        | fv F =>
          obtain ⟨f, c, e3, e4, e5, rest⟩ := e2
          exact ⟨f, c, e3, e4, keep e5 (fun z => by rw [z, h1] at e5; exact codeO_no (o := .lst vs) (fun _ z => by cases z) (Option.some.inj e5)), rest⟩
    · have f : ∀ {m : Nat} {u : List D}, (ρ.set i (.ol ys))[m]? = some (.ol u) → ∃ u', ρ[m]? = some (.ol u') := fun {m u} e => by
        by_cases hm : i = m
        · subst hm
          exact ⟨xs, ei⟩
        · rw [List.getElem?_set_ne hm] at e
          exact ⟨u, e⟩
      obtain ⟨y', ey⟩ := f ej
      obtain ⟨z', ez⟩ := f ek
      exact sl.ap j k q y' z' hjk ey ez sj sk
/-- y = [..], a list of one's own -/
theorem rds_setO {i : Nat} {F : DTL} (h1 : RdN K T S E te F) : RdS K T S E (tAsg te (gName i)) (xsSetO i F) := fun σ ρ Hb0 H0 n0 Hb H n DD XP D a sl h q x =>
  h1 σ ρ Hb H n _ XP _ a.wd sl.sl h (fun ds p vs n1 Hb1 H1 s hp e1 e2 hd pp => by
    obtain ⟨m1, m2, m3⟩ := a.wd.nS hp
    refine q.nx _ _ n1 Hb1 H1 s.ex (a.trans s) ⟨(sl.sl.step s).setO e1 e2 m1 m2 m3 hd (fun j ys ej sj => ?_), fun j xs r ej eo sj => ?_⟩ pp
    · obtain ⟨o, g1, r, ws, g2, g3, _⟩ := sl.sl.ok j _ ej
      rw [g1, g2] at sj
      have er : r = p := V.ref.inj (Option.some.inj (Option.some.inj sj))
      rw [er] at g3
      exact absurd rfl (hp.ne g3 fun _ z => by cases z)
    · by_cases hj : i = j
      · subst hj
        have hl : i < ρ.length := by
          have := (List.getElem?_eq_some_iff.mp ej).1
          rwa [List.length_set] at this
        rw [List.getElem?_set_self (by rw [← sl.sl.len]; exact hl)] at sj
        have er : p = r := V.ref.inj (Option.some.inj (Option.some.inj sj))
        rw [← er]
        exact a.dm p hp
      · rw [List.getElem?_set_ne hj] at ej sj
        exact sl.fr j xs r ej eo sj) (x.step a)
/-- xs[e], xs of one's own -/
def xIxO (i : Nat) (G : DT) : DT := fun ρ n P XP => slotO ρ i fun xs => G ρ n (fun d n1 => match d with | .int j => ∃ y, atD xs j = some y ∧ P y n1 | _ => False) XP
theorem rd_ixO {i : Nat} (h1 : DL.Rd K T S E te FE) : DL.Rd K T S E (tOp (rIx K) (tVar i) te) (xIxO i FE) := fun σ ρ Hb H n P XP Q w sl h q x => by
  obtain ⟨xs, p, vs, e, es, e3, e4, e5, e6, e8, e7, h⟩ := sl.own h
  refine ⟨.ref p, es, ?_⟩
  refine h1 σ ρ Hb H n _ XP _ w sl h (fun d v n1 Hb1 H1 s hd pp => ?_) x
  cases hd with
  | int j =>
    obtain ⟨y, ey, pp⟩ := pp
    obtain ⟨g1, g2⟩ := s.own p _ e3 e4 e5 e6 (fun ps z => by cases z)
    obtain ⟨u, eu, hu⟩ := (e7.up s.ex).at ey
    exact .inl ⟨p, vs, j, u, rfl, rfl, SqL.of g1, eu, q _ _ n1 Hb1 H1 s hu pp⟩
  | _ => exact pp.elim
def xTupO (i : Nat) : DT := fun ρ n P _ => slotO ρ i fun xs => P (.tup xs) n
theorem rd_tupO {i : Nat} : DL.Rd K T S E (tCB (rTupOf K) (tCons (tVar i) tNil)) (xTupO i) := fun σ ρ Hb H n P XP Q w sl h q x => by
  obtain ⟨xs, p, vs, e, es, e3, e4, e5, e6, e8, e7, h⟩ := sl.own h
  exact ⟨.ref p, es, p, vs, rfl, .inl ⟨SqL.of e3, fun l hl => q.new w hl (.tup (SqT.of upd_same) (e7.up (Ex.new (free_of w.ex hl)))) h⟩⟩
/-- a statement that rewrites a list of one's own -/
theorem own_stmt {i : Nat} {ρ : List SV} {σ : L2.St} {p : Addr} {vs us : List V} {xs ys : List D} {Hb0 H0 : Hp} {n0 : Nat} {DD : DEn} {D : Ends} (a : Stp K T S Hb0 H0 n0 Hb H n) (sl : Sl0 K S H0 Hb H n ρ σ) (q : EOk K T S Hb0 H0 n0 Hb DD D)
    (ei : ρ[i]? = some (.ol xs)) (es : σ[i]? = some (some (.ref p))) (h1 : H p = some (.lst vs)) (h2 : Hb p = none) (h3 : p ≠ S.a) (h4 : p ≠ S.l) (hc : p ≠ S.c) (h6 : DnA K Hb us ys) (pp : DD.nx (ρ.set i (.ol ys)) n) : D.nx σ (upd H p (.lst us)) := by
  have f0 : Fresh H0 p := sl.fr i _ p ei rfl es
  obtain ⟨w', sl'⟩ := own_write (us := us) (ys := ys) a.wd sl.sl ei es h1 h2 h3 h4 h6 hc
  refine q.nx _ _ n Hb _ (Ex.refl _) ⟨a.ex, w', fun h0 => ?_, fun b o e1 e2 e3 e4 e5 => ?_, fun b e => a.dm b (dm_upd (fun _ z => by cases z) b e)⟩ ⟨sl', fun j zs r ej eo sj => ?_⟩ pp
  · obtain ⟨g1, g2, ls, cs, m, t, g3, g4, g5, g6, g7, g8, rest⟩ := a.st h0
    exact ⟨g1, g2, ls, cs, m, t, g3, g4, g5, by rw [upd_ne h3.symm]; exact g6, by rw [upd_ne h4.symm]; exact g7, g8, rest⟩
  · have hb : b ≠ p := f0.ne e1 e5
    rw [upd_ne hb]
    exact a.own0 b o e1 e2 e3 e4 e5
  · by_cases hj : i = j
    · subst hj
      rw [es] at sj
      cases sj
      exact f0
    · rw [List.getElem?_set_ne hj] at ej
      exact sl.fr j zs r ej eo sj
/-- xs[e] = e2 -/
def xsPutO (i : Nat) (F G : DT) : DTS := fun DD ρ n XP => slotO ρ i fun xs => F ρ n (fun d n1 => G ρ n1 (fun k n2 => match k with
  | .int j => ∃ m, ixN xs.length j = some m ∧ DD.nx (ρ.set i (.ol (xs.set m d))) n2
  | _ => False) XP) XP
theorem DnA.set {vs : List V} {ds : List D} {v : V} {d : D} (hv : Dn K H v d) : ∀ (m : Nat) {vs : List V} {ds : List D}, DnA K H vs ds → DnA K H (vs.set m v) (ds.set m d)
  | _, _, _, .nil => by simp; exact .nil
  | 0, _, _, .cons h1 h2 => .cons hv h2
  | m + 1, _, _, .cons h1 h2 => .cons h1 (DnA.set (vs := []) (ds := []) hv m h2)
theorem rds_putO {i : Nat} {ti : TE} {GE : DT} (h1 : DL.Rd K T S E te FE) (h2 : DL.Rd K T S E ti GE) : RdS K T S E (tAsg te (gSub (tVar i) ti rSetL)) (xsPutO i FE GE) := fun σ ρ Hb0 H0 n0 Hb H n DD XP D a sl h q x => by
  obtain ⟨xs, p, vs, e, es, e3, e4, e5, e6, e8, e7, h⟩ := sl.sl.own h
  refine h1 σ ρ Hb H n _ XP _ a.wd sl.sl h (fun d v n1 Hb1 H1 s hd pp => ?_) (x.step a)
  refine ⟨.ref p, es, ?_⟩
  refine h2 σ ρ Hb1 H1 n1 _ XP _ s.wd (sl.step s).sl pp (fun k u n2 Hb2 H2 s2 hk p2 => ?_) ((x.step a).step s)
  obtain ⟨g1, g2⟩ := (s.trans s2).own p _ e3 e4 e5 e6 (fun ps z => by cases z)
  have h7 := (e7.up s.ex).up s2.ex
  cases hk with
  | int j =>
    obtain ⟨m, em, p2⟩ := p2
    refine ⟨p, vs, j, m, rfl, rfl, g1, by rw [e7.len]; exact em, ?_⟩
    exact own_stmt ((a.trans s).trans s2) ((sl.step s).step s2) (q.up (s.ex.trans s2.ex)) e es g1 g2 e5 e6 e8 (DnA.set (vs := []) (ds := []) (hd.up s2.ex) m h7) p2
  | _ => exact p2.elim
/-- xs.append(e) -/
def xsAppO (i : Nat) (F : DT) : DTS := fun DD ρ n XP => slotO ρ i fun xs => F ρ n (fun d n1 => xs.length < 100000 ∧ DD.nx (ρ.set i (.ol (xs ++ [d]))) n1) XP
theorem rds_appO {i : Nat} (h1 : DL.Rd K T S E te FE) : RdS K T S E (tDrop (tBM K "list" rAppend (tVar i) (tCons te tNil))) (xsAppO i FE) := fun σ ρ Hb0 H0 n0 Hb H n DD XP D a sl h q x => by
  obtain ⟨xs, p, vs, e, es, e3, e4, e5, e6, e8, e7, h⟩ := sl.sl.own h
  refine ⟨.ref p, es, .inl ⟨rfl, vs, SqL.of e3⟩, ?_⟩
  refine h1 σ ρ Hb H n _ XP _ a.wd sl.sl h (fun d v n1 Hb1 H1 s hd pp => ?_) (x.step a)
  obtain ⟨g1, g2⟩ := s.own p _ e3 e4 e5 e6 (fun ps z => by cases z)
  have h7 := e7.up s.ex
  exact ⟨p, vs, v, rfl, rfl, g1, Evl.sz_lt (by rw [e7.len]; exact pp.1), own_stmt (a.trans s) (sl.step s) (q.up s.ex) e es g1 g2 e5 e6 e8 (h7.app (.one hd)) pp.2⟩
end
end DL

/-! the source of draws, as its two objects stand -/
namespace DL
open L2 PySem PySem.Spec PyProof.Rows
open Evl (Ex ex_l ex_t sz_of)
def stDict (S : SA) (m : Int) (t : Int) : List (Key × V) := [(kLarge, .ref S.l), (kCells, .ref S.c), (kLeft, .int m), (kTurn, .int t)]
theorem kne1 : ¬ kLarge = kCells := by decide +kernel
theorem kne2 : ¬ kLarge = kLeft := by decide +kernel
theorem kne3 : ¬ kLarge = kTurn := by decide +kernel
theorem kne4 : ¬ kCells = kLeft := by decide +kernel
theorem kne5 : ¬ kCells = kTurn := by decide +kernel
theorem kne6 : ¬ kLeft = kTurn := by decide +kernel
theorem st_large {S : SA} {m t : Int} : valV (stDict S m t) kLarge = some (.ref S.l) := by simp [valV, stDict]
theorem st_cells {S : SA} {m t : Int} : valV (stDict S m t) kCells = some (.ref S.c) := by simp [valV, stDict, kne1]
theorem st_left {S : SA} {m t : Int} : valV (stDict S m t) kLeft = some (.int m) := by simp [valV, stDict, kne2, kne4]
theorem st_turn {S : SA} {m t : Int} : valV (stDict S m t) kTurn = some (.int t) := by simp [valV, stDict, kne3, kne5, kne6]
theorem st_putL {S : SA} {m t k : Int} : putK (stDict S m t) kLeft (.int k) = stDict S k t := by
  simp [putK, stDict, kne2, kne4, Ne.symm (a := kLeft) (b := kTurn) kne6]
theorem st_putT {S : SA} {m t k : Int} : putK (stDict S m t) kTurn (.int k) = stDict S m k := by
  simp [putK, stDict, kne3, kne5, kne6]
/-- what a draw leaves as it was -/
structure Drw (S : SA) (H H' : Hp) : Prop where
  fr : ∀ b o, H b = some o → b ≠ S.a → b ≠ S.l → H' b = some o
  dm : ∀ b, Fresh H' b → Fresh H b
theorem Drw.refl {S : SA} (H : Hp) : Drw S H H := ⟨fun _ _ h _ _ => h, fun _ h => h⟩
theorem Drw.new {S : SA} {H H' : Hp} {p : Addr} {o : HO} (d : Drw S H H') (hp : H' p = none) (ho : ∀ ps, o ≠ .tbl ps := by intro _ z; cases z) : Drw S H (upd H' p o) := ⟨fun b u h h1 h2 => by
  have e := d.fr b u h h1 h2
  rw [upd_ne (ne_of_none e hp)]
  exact e, fun b h => d.dm b (dm_upd ho b h)⟩
theorem Drw.setA {S : SA} {H H' : Hp} {o : HO} (d : Drw S H H') (ho : ∀ ps, o ≠ .tbl ps := by intro _ z; cases z) : Drw S H (upd H' S.a o) := ⟨fun b u h h1 h2 => by
  rw [upd_ne h1]
  exact d.fr b u h h1 h2, fun b h => d.dm b (dm_upd ho b h)⟩
theorem Drw.setL {S : SA} {H H' : Hp} {o : HO} (d : Drw S H H') (ho : ∀ ps, o ≠ .tbl ps := by intro _ z; cases z) : Drw S H (upd H' S.l o) := ⟨fun b u h h1 h2 => by
  rw [upd_ne h2]
  exact d.fr b u h h1 h2, fun b h => d.dm b (dm_upd ho b h)⟩
/-- the source's two objects -/
structure StA (S : SA) (H : Hp) (ls : List Int) (m t : Int) : Prop where
  ea : H S.a = some (.dK (stDict S m t))
  el : H S.l = some (.lst (ls.map V.int))
theorem StA.new {S : SA} {H : Hp} {ls : List Int} {m t : Int} {p : Addr} {o : HO} (s : StA S H ls m t) (hp : H p = none) : StA S (upd H p o) ls m t :=
  ⟨by rw [upd_ne (ne_of_none s.ea hp)]; exact s.ea, by rw [upd_ne (ne_of_none s.el hp)]; exact s.el⟩
theorem StA.getL {S : SA} {H : Hp} {ls : List Int} {m t : Int} (s : StA S H ls m t) : DGet H S.a (.str "left") (some (.int m)) := by
  have e : (some (V.int m)) = valV (stDict S m t) kLeft := st_left.symm
  rw [e]
  exact DGet.k (k := kLeft) s.ea
theorem StA.getT {S : SA} {H : Hp} {ls : List Int} {m t : Int} (s : StA S H ls m t) : DGet H S.a (.str "turn") (some (.int t)) := by
  have e : (some (V.int t)) = valV (stDict S m t) kTurn := st_turn.symm
  rw [e]
  exact DGet.k (k := kTurn) s.ea
theorem StA.getG {S : SA} {H : Hp} {ls : List Int} {m t : Int} (s : StA S H ls m t) : DGet H S.a (.str "large") (some (.ref S.l)) := by
  have e : (some (V.ref S.l)) = valV (stDict S m t) kLarge := st_large.symm
  rw [e]
  exact DGet.k (k := kLarge) s.ea
theorem StA.getC {S : SA} {H : Hp} {ls : List Int} {m t : Int} (s : StA S H ls m t) : DGet H S.a (.str "cells") (some (.ref S.c)) := by
  have e : (some (V.ref S.c)) = valV (stDict S m t) kCells := st_cells.symm
  rw [e]
  exact DGet.k (k := kCells) s.ea
theorem st_len {S : SA} {m t : Int} : (stDict S m t).length < sizeLine := by show 4 < sizeLine; decide
theorem StA.putL {S : SA} {H : Hp} {ls : List Int} {m t k : Int} (s : StA S H ls m t) : DPut H S.a (.str "left") (.int k) (upd H S.a (.dK (stDict S k t))) := by
  have z := DPut.k (k := kLeft) (v := .int k) s.ea st_len
  rw [st_putL] at z
  exact z
theorem StA.putT {S : SA} {H : Hp} {ls : List Int} {m t k : Int} (s : StA S H ls m t) : DPut H S.a (.str "turn") (.int k) (upd H S.a (.dK (stDict S m k))) := by
  have z := DPut.k (k := kTurn) (v := .int k) s.ea st_len
  rw [st_putT] at z
  exact z
theorem ints_dp {K : PySem.W.Frag} {H : Hp} : ∀ (ns : List Int), DpAll K H (ns.map V.int) (ns.map PyData.int)
  | [] => .nil
  | n :: ns => .cons (.int n) (ints_dp ns)
theorem eqv_nil (ns : List Int) : PyData.eqv (.list (ns.map PyData.int)) (.list []) = ns.isEmpty := by
  cases ns with
  | nil => rfl
  | cons n ns => rfl
theorem lay_ints : ∀ ns : List Int, PyData.canLayAll0 (ns.map PyData.int) = true
  | [] => by simp [PyData.canLayAll0]
  | n :: ns => by simp [PyData.canLayAll0, PyData.canLay0, lay_ints ns]
theorem depth_ints : ∀ ns : List Int, PyData.depthAll (ns.map PyData.int) = 0
  | [] => by simp [PyData.depthAll]
  | n :: ns => by simp [PyData.depthAll, PyData.depth, depth_ints ns]
theorem shaped_ints (ns : List Int) : SeqAt.shaped (.list (ns.map PyData.int)) = true := by
  unfold SeqAt.shaped
  simp [PyData.canLay0, lay_ints ns, PyData.depth, depth_ints ns]
theorem shaped_nil : SeqAt.shaped (.list []) = true := shaped_ints []
/-- the draw's end: a step of ours -/
theorem draw_end {K : PySem.W.Frag} {T : Tb} {S : SA} {Hb H H' : Hp} {n : Nat} {ls : List Int} {m : Int} {t : Nat} (w : World T S Hb H) (st : StOk K S Hb H n) (d : Drw S H H') (s : StA S H' ls m t) (hm : 0 ≤ m) (hl : ∀ x ∈ ls, 0 ≤ x) (hn : ls.length ≤ 63) {n' : Nat} (ht : t ≤ n') : Stp K T S Hb H n Hb H' n' := by
  obtain ⟨g1, g2, ls0, cs0, m0, t0, g3, g4, g5, g6, g7, g8, k1, k2, k3, k4, k5, k6⟩ := st
  have nA : ∀ {b : Addr} {o : HO}, H b = some o → (∀ kvs, o ≠ .dK kvs) → b ≠ S.a := fun e h z => by
    rw [z, g6] at e
    cases e
    exact h _ rfl
  have nL : ∀ {b : Addr} {o : HO}, H b = some o → (∀ xs, o ≠ .lst xs) → b ≠ S.l := fun e h z => by
    rw [z, g7] at e
    cases e
    exact h _ rfl
  refine ⟨Ex.refl _, ⟨fun b o e => ?_, fun q hq => ?_, w.tb, ⟨_, s.ea, fun _ z => by cases z⟩, ⟨_, s.el, fun _ z => by cases z⟩, ⟨_, d.fr _ _ (w.ex _ _ g8) g4 g3, fun _ z => by cases z⟩, w.nt⟩, fun _ => ?_, fun b o e1 e2 e3 e4 _ => ⟨d.fr b o e1 e3 e4, .inl e2⟩, d.dm⟩
  · exact d.fr b o (w.ex b o e) (fun z => by rw [z, g1] at e; cases e) (fun z => by rw [z, g2] at e; cases e)
  · obtain ⟨ps, e, t1, t2⟩ := w.tabs q hq
    refine ⟨ps, d.fr _ _ e (nA e fun _ z => by cases z) (nL e fun _ z => by cases z), t1, fun pos cv hcv => ?_⟩
    obtain ⟨c, e1, e2⟩ := t2 pos cv hcv
    exact ⟨c, e1, d.fr _ _ e2 (nA e2 fun _ z => codeO_no (o := .dK _) (fun _ z => by cases z) z.symm) (nL e2 fun _ z => codeO_no (o := .lst _) (fun _ z => by cases z) z.symm)⟩
  · exact ⟨g1, g2, ls, cs0, m, t, g3, g4, g5, s.ea, s.el, g8, hl, k2, hm, ht, hn, k6⟩
section
variable {K : PySem.W.Frag} {T : Tb} {S : SA} {E : XK} {te : TE} {FE : DT}
theorem Slots.src {Hb H : Hp} {n : Nat} {ρ : List SV} {σ : L2.St} {i : Nat} (sl : Slots K S Hb H n ρ σ) (e : ρ[i]? = some .st) : σ[i]? = some (some (.ref S.a)) ∧ StOk K S Hb H n := by
  obtain ⟨o, e1, e2, e3⟩ := sl.ok i _ e
  exact ⟨by rw [e1, e2], e3⟩
def isSt (ρ : List SV) (i : Nat) : Prop := ρ[i]? = some .st
/-- state["left"], state["turn"], state["cells"] -/
def xStLeft (i : Nat) : DT := fun ρ n P _ => isSt ρ i ∧ ∀ m : Int, 0 ≤ m → P (.int m) n
def xStTurn (i : Nat) : DT := fun ρ n P _ => isSt ρ i ∧ ∀ t : Nat, t ≤ n → P (.int t) n
def xStCells (cs : List Int) (i : Nat) : DT := fun ρ n P _ => isSt ρ i ∧ ((∀ x ∈ cs, 0 ≤ x) → cs.length ≤ 63 → P (.lst (cs.map D.int)) n)
theorem rd_stLeft {i : Nat} : DL.Rd K T S E (tDGet (tVar i) (tC (.str "left"))) (xStLeft i) := fun σ ρ Hb H n P XP Q w sl h q x => by
  obtain ⟨e, st⟩ := sl.src h.1
  obtain ⟨ga, gl, ls, cs, m, t, _, _, _, e1, e2, _, _, _, k3, _⟩ := st
  exact ⟨_, e, S.a, _, rfl, (StA.mk e1 e2 : StA S H ls m t).getL, q.now w (.int m) (h.2 m k3)⟩
theorem rd_stTurn {i : Nat} : DL.Rd K T S E (tDGet (tVar i) (tC (.str "turn"))) (xStTurn i) := fun σ ρ Hb H n P XP Q w sl h q x => by
  obtain ⟨e, st⟩ := sl.src h.1
  obtain ⟨ga, gl, ls, cs, m, t, _, _, _, e1, e2, _, _, _, _, k4, _⟩ := st
  exact ⟨_, e, S.a, _, rfl, (StA.mk e1 e2 : StA S H ls m t).getT, q.now w (.int t) (h.2 t k4)⟩
theorem rd_stCells {i : Nat} : DL.Rd K T S E (tDGet (tVar i) (tC (.str "cells"))) (xStCells S.cs i) := fun σ ρ Hb H n P XP Q w sl h q x => by
  obtain ⟨e, st⟩ := sl.src h.1
  obtain ⟨ga, gl, ls, cs, m, t, _, _, _, e1, e2, e3, _, k2, _, _, _, k6⟩ := st
  exact ⟨_, e, S.a, _, rfl, (StA.mk e1 e2 : StA S H ls m t).getC, q.now w (.lst (SqL.of e3) (DnA.ints cs)) (by rw [← k6.2] at h; exact h.2 k2 k6.1)⟩
theorem st_step {ρ : List SV} {σ : L2.St} {Hb0 H0 Hb H H' : Hp} {n0 n n' : Nat} {DD : DEn} {D : Ends} (a : Stp K T S Hb0 H0 n0 Hb H n) (sl : Sl0 K S H0 Hb H n ρ σ) (q : EOk K T S Hb0 H0 n0 Hb DD D) (s : Stp K T S Hb H n Hb H' n') (p : DD.nx ρ n') : D.nx σ H' :=
  q.nx ρ σ n' Hb H' (Ex.refl _) (a.trans s) (sl.step s) p
/-- state["left"] = e, state["turn"] = e -/
def xsStLeft (i : Nat) (F : DT) : DTS := fun DD ρ n XP => F ρ n (fun d n1 => isSt ρ i ∧ match d with | .int m => 0 ≤ m ∧ DD.nx ρ n1 | _ => False) XP
def xsStTurn (i : Nat) (F : DT) : DTS := fun DD ρ n XP => F ρ n (fun d n1 => isSt ρ i ∧ match d with | .int m => 0 ≤ m ∧ DD.nx ρ m.toNat | _ => False) XP
theorem rds_stLeft {i : Nat} (h1 : DL.Rd K T S E te FE) : RdS K T S E (sDPut (tVar i) (tC (.str "left")) te) (xsStLeft i FE) := fun σ ρ Hb0 H0 n0 Hb H n DD XP D a sl h q x =>
  h1 σ ρ Hb H n _ XP _ a.wd sl.sl h (fun d v n1 Hb1 H1 s hd p => by
    obtain ⟨es, st⟩ := (sl.step s).sl.src p.1
    obtain ⟨ga, gl, ls, cs, m, t, g3, g4, g5, e1, e2, e3, k1, k2, k3, k4, k5, k6⟩ := id st
    have sA : StA S H1 ls m t := ⟨e1, e2⟩
    cases hd with
    | int m' =>
      refine ⟨_, es, S.a, _, rfl, sA.putL, st_step (a.trans s) (sl.step s) (q.up s.ex) (draw_end s.wd st (Drw.refl H1).setA ⟨upd_same, by rw [upd_ne g5.symm]; exact e2⟩ p.2.1 k1 k5 k4) p.2.2⟩
    | _ => exact p.2.elim) (x.step a)
theorem rds_stTurn {i : Nat} (h1 : DL.Rd K T S E te FE) : RdS K T S E (sDPut (tVar i) (tC (.str "turn")) te) (xsStTurn i FE) := fun σ ρ Hb0 H0 n0 Hb H n DD XP D a sl h q x =>
  h1 σ ρ Hb H n _ XP _ a.wd sl.sl h (fun d v n1 Hb1 H1 s hd p => by
    obtain ⟨es, st⟩ := (sl.step s).sl.src p.1
    obtain ⟨ga, gl, ls, cs, m, t, g3, g4, g5, e1, e2, e3, k1, k2, k3, k4, k5, k6⟩ := id st
    have sA : StA S H1 ls m t := ⟨e1, e2⟩
    cases hd with
    | int m' =>
      have em : m' = ((m'.toNat : Nat) : Int) := by have := p.2.1; omega
      refine ⟨_, es, S.a, _, rfl, sA.putT, st_step (a.trans s) (sl.step s) (q.up s.ex) (draw_end s.wd st (Drw.refl H1).setA (t := m'.toNat) ⟨?_, by rw [upd_ne g5.symm]; exact e2⟩ k3 k1 k5 (Nat.le_refl _)) p.2.2⟩
      rw [upd_same, ← em]
    | _ => exact p.2.elim) (x.step a)
/-- while state["left"] == 0 and state["large"] != []: state["left"] = state["large"].pop(0) -/
def xsLoop (i : Nat) : DTS := fun DD ρ n _ => isSt ρ i ∧ DD.nx ρ n
theorem rds_loop {i : Nat} : RdS K T S E (tWhile (tAnd (tTest (tOp (rEqD K) (tDGet (tVar i) (tC (.str "left"))) (tC (.int 0)))) (tTest (tOp (rNeD K) (tDGet (tVar i) (tC (.str "large"))) (tLst tNil))))
    (sDPut (tVar i) (tC (.str "left")) (tBM K "list" rPopAt (tDGet (tVar i) (tC (.str "large"))) (tCons (tC (.int 0)) tNil)))) (xsLoop i) := fun σ ρ Hb0 H0 n0 Hb H n DD XP D a sl h q x => by
  obtain ⟨es, st⟩ := sl.sl.src h.1
  obtain ⟨ga, gl, ls, cs, m, t, g3, g4, gc3, e1, e2, e3, k1, k2, k3, k4, k5, k6⟩ := id st
  refine ⟨fun k σ' H' => σ' = σ ∧ ∃ ls m, k = ls.length ∧ Drw S H H' ∧ StA S H' ls m t ∧ 0 ≤ m ∧ (∀ x ∈ ls, 0 ≤ x) ∧ ls.length ≤ 63, ⟨_, rfl, ls, m, rfl, .refl H, ⟨e1, e2⟩, k3, k1, k5⟩, ?_⟩
  rintro k σ' H' ⟨rfl, ls, m, rfl, d, sA, hm0, hl, hz⟩
  have fin : ∀ {H' : Hp} {ls : List Int} {m : Int}, Drw S H H' → StA S H' ls m t → 0 ≤ m → (∀ x ∈ ls, 0 ≤ x) → ls.length ≤ 63 → D.nx σ' H' := fun d sA h1 h2 h3 =>
    st_step a sl q (draw_end a.wd st d sA h1 h2 h3 k4) h.2
  by_cases hm1 : m = 0
  · subst hm1
    refine ⟨.ref S.a, es, S.a, .int 0, rfl, sA.getL, .int 0, .int 0, .int 0, .int 0, rfl, rfl, _, rfl, iteT ?_⟩
    refine ⟨.ref S.a, es, S.a, .ref S.l, rfl, sA.getG, Nat.zero_le _, fun p hp => ⟨.list (ls.map PyData.int), .list [], .lst (SqL.of (sA.new hp).el) (ints_dp ls), .lst (SqL.of upd_same) .nil, shaped_ints ls, shaped_nil, _, rfl, ?_⟩⟩
    rw [eqv_nil]
    cases ls with
    | nil => exact fin (d.new hp) (sA.new hp) (Int.le_refl _) (fun _ h => nomatch h) (Nat.zero_le _)
    | cons x r =>
      refine iteT ⟨fun σ2 H2 => σ2 = σ' ∧ Drw S H H2 ∧ StA S H2 r x t, fun σ2 H2 ⟨h1, h2, h3⟩ => ⟨r.length, by simp, h1, r, x, rfl, h2, h3, hl x List.mem_cons_self, fun y hy => hl y (List.mem_cons_of_mem _ hy), by simp at hz; omega⟩, ?_⟩
      have sA' := sA.new (o := .lst []) hp
      refine ⟨.ref S.a, es, S.a, .ref S.l, rfl, sA'.getG, .inl ⟨rfl, _, SqL.of sA'.el⟩, S.l, _, 0, 0, .int x, rfl, rfl, sA'.el, by decide, by decide, ?_, rfl, ?_⟩
      · rw [PySem.seqIndex_of (by decide) (by simp <;> omega)]
        rfl
      · have sB : StA S (upd (upd H' p (.lst [])) S.l (.lst (r.map V.int))) r 0 t := ⟨by rw [upd_ne gc3]; exact sA'.ea, upd_same⟩
        refine ⟨.ref S.a, es, S.a, _, rfl, sB.putL, rfl, ((d.new hp).setL).setA, ⟨upd_same, ?_⟩⟩
        rw [upd_ne gc3.symm]
        exact upd_same
  · have ef : PyData.eqv (.int m) (.int 0) = false := by
      show (m == 0) = false
      simpa using hm1
    refine ⟨.ref S.a, es, S.a, .int m, rfl, sA.getL, .int m, .int 0, .int m, .int 0, rfl, rfl, _, rfl, ?_⟩
    rw [ef]
    exact iteF (fin d sA hm0 hl hz)
end
end DL

/-! an error that is caught, kept and handed back; a lambda handed to such a def -/
namespace DL
open L2 PySem PySem.Spec PyProof.Rows
open Evl (Ex ex_l ex_t sz_of)
section
variable {X : Cx} {pins : List (Addr × Obj)} {σ : L2.St} {H : Hp} {s : Shared}
theorem exT_ok {P : Program} {w : PySem.World} {H : Hp} {h : Heap} {a C : Addr} {d : Option Addr} {oe : Obj} {vs : Array Value} (e : h.get? a = some oe) (z : Zc (.ref C) d oe) (hd : oe.data = .fields vs) : ObjOk P w H h a (ExT C d a) :=
  ⟨⟨oe, vs, e, z, hd⟩, ⟨oe, e⟩, fun _ _ ⟨o, v, q, r⟩ k => ⟨o, v, k o q, r⟩⟩
/-- an object that the entry did not know is tracked from now on -/
theorem adopt {a C : Addr} {d : Option Addr} {oe : Obj} {vs : Array Value} (I : Inv X pins σ H s) (e : s.heap.get? a = some oe) (z : Zc (.ref C) d oe) (hd : oe.data = .fields vs) (na : H a = none) (nL : a ≠ X.env.locals)
    (n0 : X.s_0.heap.get? a = none) (np : ∀ p ∈ X.pn ++ pins, p.1 ≠ a) : Inv X pins σ (upd H a (ExT C d a)) s := by
  have old : ∀ b o, X.s_0.heap.get? b = some o → b ≠ a := fun b o q r => by
    rw [r, n0] at q
    cases q
  have tr : ∀ b o, H b = some o → b ≠ a := fun b o q => ne_of_none q na
  have cel : ∀ x c, X.env.cells.lookup x = some c → c ≠ a := fun x c q r => by
    obtain ⟨v, o, h1, h2⟩ := I.cell x c q
    rw [r, e] at h1
    cases h1
    rw [hd] at h2
    cases h2
  refine ⟨I.ok, I.os, I.bare, ⟨I.base.keep, I.base.slot, ?_, I.base.there, ?_, ?_, ?_⟩, I.loc, I.cell, ?_, ?_, ?_, ?_, I.len⟩
  · intro b o q1 q2 q3
    rw [upd_ne (old b o q1)]
    exact I.base.free b o q1 q2 q3
  · intro b xs q
    have r := I.base.tups b xs q
    rw [upd_ne (tr b _ r)]
    exact r
  · intro b o u q
    have r := I.base.frzs b o u q
    rw [upd_ne (tr b _ r)]
    exact r
  · intro b ps q
    obtain ⟨m, r⟩ := I.base.tbls b ps q
    exact ⟨m, by rw [upd_ne (tr b _ r)]; exact r⟩
  · rw [upd_ne nL.symm]
    exact I.free
  · intro x c q
    rw [upd_ne (cel x c q)]
    exact I.freeC x c q
  · intro p hp
    obtain ⟨h1, h2, h3⟩ := I.pin p hp
    exact ⟨h1, by rw [upd_ne (np p hp)]; exact h2, h3⟩
  · intro b u q
    by_cases hb : b = a
    · rw [hb, upd_same] at q
      cases q
      rw [hb]
      exact exT_ok e z hd
    · rw [upd_ne hb] at q
      refine (I.hok b u q).stay (fun _ _ _ r => r) (fun c r => ?_) fun c xs r => ?_
      · rw [upd_ne (tr c _ r)]
        exact r
      · rw [upd_ne (tr c _ r)]
        exact r
end
/-- what try: .. except x as n: y = n wishes of an error: n in slot i, y in slot j -/
def wKeep (K : PySem.W.Frag) (c : Value) (i j m : Nat) (D : Ends) : WX := fun cls d σ H => ∃ b, PySem.W.exmOne K cls c = some b ∧
  (b = true → ∀ a C, cls = .ref C → H a = none → σ.length = m → ∃ C', cls = .ref C' ∧ D.nx (((σ.set i (some (.ref a))).set j (some (.ref a))).set i none) (upd H a (ExT C' d a))) ∧ (b = false → False) ∧ ∃ C, cls = .ref C
section
variable {X : Cx} {x n y : Str} {c : Value} {i j : Nat} {body : List Stmt} {np p1 p2 p3 pos pos' : Pos} {tb : WX → TS}
theorem ps_try_keep (hs : X.stack = X.env :: X.outer) (hf : X.env.frame = some X.env.locals) (hN : X.N.Nodup) (hi : X.N[i]? = some n) (hln : X.env.kindOf n = some .local) (hj : X.N[j]? = some y) (hly : X.env.scope.names.lookup y = some .local) (hc : Names X x c) (hex : X.ex = []) (hd1 : (n == ("__debug__" : Str)) = false) (hd2 : (n == ("__classdict__" : Str)) = false)
    (hb : ∀ (W : WX) (pn : List (Addr × Obj)) (xe : Value → Shared → Prop), Takes (X.tr pn xe) W → PassesOwn (model X.prog X.w) X.A X.env xe → PSs (X.tr pn xe) body (tb W)) :
    PS X (.Try body [.ExceptHandler (some (.Name x np)) (some n) [.Assign [.Name y p1] (.Name n p2) p3] pos'] [] [] pos) (fun D σ H => tb (wKeep X.K c i j X.N.length D) D σ H) := by
  refine ⟨fun pins s σ H D I h => wpAny_Try_except ?_⟩
  have ok := I.ok
  have hfr : X.A.frames = some (X.env :: X.outer) := ok.frames.trans (congrArg some hs)
  have run := (hb (wKeep X.K c i j X.N.length D) (X.pn ++ pins) (fun e s1 => wpAny (model X.prog X.w) X.A (noteFrame e X.env) (fun _ s2 => wpAny (model X.prog X.w) X.A (setFlight e none) (fun _ s3 =>
    wpAny (model X.prog X.w) X.A (handleBy e X.env [.ExceptHandler (some (.Name x np)) (some n) [.Assign [.Name y p1] (.Name n p2) p3] pos']) (SP X pins D) X.xe s3) X.xe s2) X.xe s1) ?_ PassesOwn.looking).run [] s σ H D (I.toTry _) h
  · refine wpAny_mono run (fun f s1 hsp => ?_) fun _ _ he => he
    -- the body came to its end
    cases f with
    | next =>
      obtain ⟨σ', H', J, q⟩ := hsp
      exact wpAny_execs_nil ⟨σ', H', J.ofTry ok, q⟩
    | brk =>
      obtain ⟨σ', H', J, q⟩ := hsp
      exact ⟨σ', H', J.ofTry ok, q⟩
    | cont =>
      obtain ⟨σ', H', J, q⟩ := hsp
      exact ⟨σ', H', J.ofTry ok, q⟩
    | ret u =>
      obtain ⟨v, σ', H', J, r, q⟩ := hsp
      exact ⟨v, σ', H', J.ofTry ok, r, q⟩
  · -- an error comes
    rintro u s' ⟨a, B, sI, pins', σ', H', cls, d, rfl, J', nb, up, sky, na, os, ag, b, hb1, hyes, hno, C, rfl⟩
    have J : Inv X pins σ' H' sI := J'.ofTry ok
    have hB : B.get? a = none := by
      rcases sky with ⟨_, z, _⟩ | ⟨_, z, _⟩ | ⟨_, z, _⟩ <;> exact z
    have sky' : Sky B (X.env :: X.outer) a (Zc (.ref C) d) X.env.locals s'.heap := hs ▸ sky
    refine Sky.land (env := X.env) Zc.steady hfr hf sky' fun h3 fl3 up3 => ?_
    have J3 : Inv X pins σ' H' { s' with heap := h3 } := J.landed nb fl3.1 (up.trans up3) os ag
    obtain ⟨oe3, vs3, he3, hz3, hd3⟩ := fl3.there
    have nfr : a ∉ frs (X.env :: X.outer) := fun hm => by
      obtain ⟨_, o, e1, e2⟩ := fl3.2.2.1.mem hm
      rw [he3] at e1
      cases e1
      exact e2 _ hd3
    have nL : a ≠ X.env.locals := fun z => nfr (List.mem_filterMap.mpr ⟨X.env, List.mem_cons_self, by rw [hf, z]⟩)
    have nF : a ∉ X.fs := fun hm => by
      obtain ⟨e, he, q⟩ := List.mem_filterMap.mp hm
      exact nfr (List.mem_filterMap.mpr ⟨e, List.mem_cons_of_mem _ he, q⟩)
    -- what stood at the entry is another object
    have inB : ∀ b o, sI.heap.get? b = some o → b ≠ X.env.locals → b ∉ X.fs → b ≠ a := fun b o e1 e2 e3 z => by
      have q := nb b o e1 fun hm => (List.mem_cons.mp (J.stkSub b hm)).elim e2 e3
      rw [z, hB] at q
      cases q
    have n0 : X.s_0.heap.get? a = none := by
      cases q : X.s_0.heap.get? a with
      | none => rfl
      | some o =>
        obtain ⟨o', q'⟩ := J.base.there a o q (by rw [hex]; exact fun z => nomatch z)
        exact absurd rfl (inB a o' q' nL nF)
    have npn : ∀ p ∈ X.pn ++ pins, p.1 ≠ a := fun p hp => by
      obtain ⟨h1, _, h3, h4, _⟩ := J.pin p hp
      exact inB p.1 p.2 h1 h3 h4
    refine wpAny_handleBy_cons (codeAny_handlers_test ?_) (by intro q; cases q)
    have S3 := J3.suite he3 hd3 na nL nF
    have LM := PySem.W.exm_one (M := model X.prog X.w) J3.kIn (fun A Q E s k q => wpAny_typeOf_ref (k _ _ he3) (by rw [hz3.1]; exact q)) hb1
    have goes : wpAny (model X.prog X.w) (X.A.mark (some (.ref a))) (eval (.Name x np) X.env) (fun v s1 => v = c ∧ s1 = { s' with heap := h3 }) (fun _ _ => False) { s' with heap := h3 } := by
      obtain ⟨hg, hdbg, hm | ⟨hm, hv, hnn⟩⟩ := hc
      · exact ld_glob (X := X.suite a ((a, oe3) :: (X.pn ++ pins))) S3 hg hm ⟨rfl, rfl⟩ hdbg
      · exact ld_blt (X := X.suite a ((a, oe3) :: (X.pn ++ pins))) S3 hg hm hv ⟨rfl, rfl⟩ hnn hdbg
    refine wpAny_mono goes (fun v s1 hv => ?_) fun _ _ z => False.elim z
    obtain ⟨e1, e2⟩ := hv
    subst e1
    subst e2
    refine LM.here ?_
    cases b with
    | false => exact (hno rfl).elim
    | true =>
      refine codeAny_handlers_suite_as ?_
      refine HandSPX.lands_againZ fl3 fun h4 fl4 up4 => ?_
      have J4 : Inv X pins σ' H' { s' with heap := h4 } := J.landed nb fl4.1 ((up.trans up3).trans up4) os ag
      obtain ⟨oe4, vs4, he4, hz4, hd4⟩ := fl4.there
      have S4 := J4.suite he4 hd4 na nL nF
      refine store_ok (X := X.suite a ((a, oe4) :: (X.pn ++ pins))) (v := .ref a) S4 hN hi (.inl hln) rfl (fun s5 S5 => ?_) (.inr hln)
      have il : i < σ'.length := by
        rw [J.len]
        exact (List.getElem?_eq_some_iff.mp hi).1
      have asg : PSs (X.suite a ((a, oe4) :: (X.pn ++ pins))) [.Assign [.Name y p1] (.Name n p2) p3] (tAsg (tVar i) (gName j)) :=
        pss_one (ps_set (X := X.suite a ((a, oe4) :: (X.pn ++ pins))) (i := j) hN hj (.inl hly) (pe_var (X := X.suite a ((a, oe4) :: (X.pn ++ pins))) (i := i) hi (.inl hln) hd1 hd2) (hf := .inr hly))
      refine wpAny_mono (asg.run [] s5 _ H' { nx := fun σ6 H6 => σ6 = (σ'.set i (some (.ref a))).set j (some (.ref a)) ∧ H6 = H', rt := fun _ _ => False } S5 ⟨.ref a, List.getElem?_set_self il, rfl, rfl⟩) (fun f s6 hsp => ?_) (fun _ _ z => False.elim z)
      cases f with
      | next =>
        obtain ⟨σ6, H6, S6, rfl, rfl⟩ := hsp
        refine gone_ok (X := X.suite a ((a, oe4) :: (X.pn ++ pins))) S6 hN hi hln fun s7 S7 => ?_
        obtain ⟨e7, _⟩ := S7.pin (a, oe4) (List.mem_append_left _ List.mem_cons_self)
        obtain ⟨C', eC, q⟩ := hyes rfl a C rfl na J.len
        cases eC
        exact ⟨_, _, adopt (S7.unsuite ok) e7 hz4 hd4 na nL n0 npn, q⟩
      | brk =>
        obtain ⟨_, _, _, q⟩ := hsp
        exact False.elim q
      | cont =>
        obtain ⟨_, _, _, q⟩ := hsp
        exact False.elim q
      | ret u =>
        obtain ⟨_, _, _, _, _, q⟩ := hsp
        exact False.elim q
end
end DL

/-! x(lambda: body), x the def that hands back what was caught -/
namespace DL
open L2 PySem PySem.Spec PyProof.Rows
open Evl (Ex ex_l ex_t sz_of)
/-- caught = None; try: work() except S as error: caught = error; return caught -/
def TTc (K : PySem.W.Frag) (CS : Addr) : (XK → Hp → VK → Prop) → Hp → VK → Prop := fun tl H Q =>
  tl (fun cls od H' => ∃ C, cls = .ref C ∧ PySem.W.exmOne K cls (.ref CS) = some true ∧ ∀ a, H' a = none → Q (.ref a) (upd H' a (ExT C od a))) H (fun _ H' => ∃ v, (some (some V.non) : Option (Option V)) = some (some v) ∧ Q v H')
def sCaught : Str := "caught"
def sError : Str := "error"
section
variable {X : Cx}
theorem caught_gives {x e q : Str} {sg : Scope} {g CS : Addr} {cdg : Value} {j1 : Nat} {p0 p1 p2 p3 p4 p5 p6 p7 p8 p9 pa pb pc pd : Pos} (hge : sg.names.lookup e = some .globalImplicit) (hme : X.mg e = some (.ref CS)) (hde : (e == ("__debug__" : Str)) = false)
    (h1 : sg.names.lookup sCaught = some .local) (h2 : sg.names.lookup sError = some .local) :
    LamX.GivesTo X ["work", "caught", "error"] x sg g cdg [.Assign [.Name "caught" p0] (.Constant .none j1 p1) p2,
      .Try [.Expr (.Call (.Name "work" p3) [] [] p4) p5] [.ExceptHandler (some (.Name e p6)) (some "error") [.Assign [.Name "caught" p7] (.Name "error" p8) p9] pa] [] [] pb, .Return (some (.Name "caught" pc)) pd] "work" q (TTc X.K CS) := by
  intro f c' s H Q tl act hc h
  have hgl : Gl (cxOf C8.CX0 X.prog X.w X.K X.mg X.base ["work", "caught", "error"] x sg g cdg X.A X.stack s H C8.E0).nox e := hge
  have nd : (["work", "caught", "error"] : List Str).Nodup := by decide +kernel
  refine ⟨_, pss_cons (ps_set (X := (cxOf C8.CX0 X.prog X.w X.K X.mg X.base ["work", "caught", "error"] x sg g cdg X.A X.stack s H C8.E0).nox) (i := 1) nd rfl (.inl h1) pe_non (hf := .inr h1))
    (pss_cons (ps_try_keep (X := (cxOf C8.CX0 X.prog X.w X.K X.mg X.base ["work", "caught", "error"] x sg g cdg X.A X.stack s H C8.E0).nox) (i := 2) (j := 1) (c := .ref CS)
      (tb := fun W D σ H => ∃ Ech : XK, (∀ cls d σ' H', Ech cls d H' → W cls d σ' H') ∧ σ[0]? = some (some (.ref f)) ∧ H c' = some (LamX.CodeO c' q) ∧ tl Ech H (fun _ H' => D.nx σ H'))
      rfl rfl nd rfl h2 rfl h1 ⟨hgl, hde, .inl hme⟩ rfl (by decide) (by decide) (fun W pn xe tk _ => ?_))
    (pss_one (ps_ret (pe_var (X := (cxOf C8.CX0 X.prog X.w X.K X.mg X.base ["work", "caught", "error"] x sg g cdg X.A X.stack s H C8.E0).nox) (i := 1) rfl (.inl h1))))), ?_⟩
  · refine ⟨fun pins s' σ H' D I h' => ?_⟩
    obtain ⟨Ech, hW, g1, g2, g3⟩ := h'
    exact (pss_one (ps_expr (act W pn xe Ech _ _ tk hW))).run pins s' σ H' D I ⟨g1, g2, g3⟩
  · refine ⟨fun cls od H' => ∃ C, cls = .ref C ∧ PySem.W.exmOne X.K cls (.ref CS) = some true ∧ ∀ a, H' a = none → Q (.ref a) (upd H' a (ExT C od a)), fun cls od σ' H' hx => ?_, rfl, hc, h⟩
    obtain ⟨C, rfl, em, hq⟩ := hx
    refine ⟨true, em, fun _ a C2 e2 na hl => ⟨C, rfl, ?_⟩, (fun z => nomatch z), C, rfl⟩
    refine ⟨.ref a, ?_, hq a na⟩
    have l3 : σ'.length = 3 := hl
    rw [List.getElem?_set_ne (by decide), List.getElem?_set_self (by rw [List.length_set, l3]; decide)]
end
/-- what is known of the class of an error that the program may raise -/
structure ErrC (K : PySem.W.Frag) (CS C : Addr) : Prop where
  ec : ExcC K C
  nt : NoTy K C
  em : PySem.W.exmOne K (.ref C) (.ref CS) = some true
section
variable {K : PySem.W.Frag} {T : Tb} {S : SA} {E : XK}
def xLam (K : PySem.W.Frag) (CS : Addr) (F : DT) : DT := fun ρ n P _ => F ρ n (fun _ n1 => P .non n1) (fun C ns ds n1 => ErrC K CS C ∧ P (.exc C ns ds) n1)
/-- all but the tables stays: a step of ours -/
theorem Stp.lam {Hb H H1 : Hp} {n : Nat} (w : World T S Hb H) (e : LamX.ExtN H H1) (t : LamX.Tabs T H1) : Stp K T S Hb H n Hb H1 n := by
  have k : ∀ b o, H b = some o → (∀ ps, o ≠ .tbl ps) → H1 b = some o := e
  have kO : ∀ {b : Addr}, Obn H b → Obn H1 b := fun ⟨o, h, ho⟩ => ⟨o, k _ _ h ho, ho⟩
  refine ⟨Ex.refl _, ⟨fun b o q => k b o (w.ex b o q) (fun ps z => by subst z; exact w.nt b ps q), t, w.tb, kO w.sa, kO w.sl, kO w.sc, w.nt⟩, fun h0 => ?_, fun b o e1 e2 _ _ e5 => ⟨k b o e1 e5, .inl e2⟩, fun b f o h => ?_⟩
  · obtain ⟨g1, g2, ls, cs, m, t, g3, g4, g5, g6, g7, g8, rest⟩ := h0
    exact ⟨g1, g2, ls, cs, m, t, g3, g4, g5, k _ _ g6 (fun _ z => by cases z), k _ _ g7 (fun _ z => by cases z), g8, rest⟩
  · by_cases ht : ∃ ps, o = .tbl ps
    · exact ht
    · exact f o (k b o h fun ps z => ht ⟨ps, z⟩)
theorem rd_lam {CS : Addr} {te : XK → TE} {F : DT} (h : ∀ E, DL.Rd K T S E (te E) F) : DL.Rd K T S E (LamX.tLam T (TTc K CS) te) (xLam K CS F) := fun σ ρ Hb H n P XP Q w sl hf q x => by
  refine ⟨w.tabs, fun H1 eN T1 => ?_⟩
  have s : Stp K T S Hb H n Hb H1 n := .lam w eN T1
  refine h _ σ ρ Hb H1 n _ _ _ s.wd (sl.step s) hf (fun d v n2 Hb2 H2 s2 hv p => ⟨.non, rfl, q .non _ n2 Hb2 H2 (s.trans s2) .non p⟩) fun C ns ds n2 od Hb2 H2 s2 hx p => ?_
  obtain ⟨ec, p⟩ := p
  refine ⟨C, rfl, ec.em, fun a na => (q.step (s.trans s2)).new s2.wd na ?_ p⟩
  obtain ⟨fs, h0, h1, h2⟩ := hx
  have eb := Ex.new (o := ExT C od a) (free_of s2.wd.ex na)
  refine .exc ec.ec ec.nt upd_same ?_ h1 (h2.up eb)
  rcases h0 with h0 | ⟨dd, h0, hne, h3⟩
  · exact .inl h0
  · exact .inr ⟨dd, h0, hne, eb _ _ h3⟩
end
end DL

/-! promises that ask for a frame in which nothing is being shown -/
namespace DL
open L2 PySem PySem.Spec PyProof.Rows
open Evl (Ex ex_l ex_t sz_of)
/-- what a def promises where no repr is under way -/
structure FnG (P : Program) (w : PySem.World) (K : PySem.W.Frag) (mg : Str → Option Value) (base : Heap) (CX : CXT) (k : Nat) (f : Addr) (fd : FuncData) (ps : List Str) (sp : Sp) : Prop where
  many : ∀ vs H Q E, sp vs H Q E → vs.length = ps.length
  goes : ∀ (A : Around), A.guards = some [] → Room k A → ∀ (out : List Env) (s : Shared) (H : Hp) (args : PySem.Args) (us : List Value) (vs : List V) (Q : VK) (E : XK), sp vs H Q E → Vals vs us → BindsTo s fd args (ps.zip us) → Env0 P w K mg base A out s H →
    codeAny (model P w) A (.call (.ref f) args) (CR CX out P w H s Q E) s
section
variable {P : Program} {w : PySem.World} {K : PySem.W.Frag} {mg : Str → Option Value} {base : Heap} {CX : CXT} {j k : Nat} {f : Addr} {fd : FuncData} {ps : List Str} {sp : Sp}
theorem FnG.of (F : FnOk P w K mg base CX k f fd ps sp) : FnG P w K mg base CX k f fd ps sp :=
  ⟨F.len, fun A _ hr out s H args us vs Q E h r b e => F.run A out s H args us vs Q E hr e b r h⟩
theorem FnG.mono (F : FnG P w K mg base CX j f fd ps sp) (h : j ≤ k) : FnG P w K mg base CX k f fd ps sp :=
  ⟨F.many, fun A g hr => F.goes A g (hr.mono h)⟩
end
section
variable {X : Cx} {CX : CXT} {k : Nat} {f : Addr} {fd : FuncData} {ps : List Str} {ds : List Value} {dvs : List V} {sp : Sp} {E : XK} {x : Str} {p pos : Pos} {e : Expr} {es : List Expr} {t : TA}
theorem runG {pins : List (Addr × Obj)} {σ : L2.St} {H : Hp} {s : Shared} {Q : VK} {us : List Value} {vs : List V} (F : FnG X.prog X.w X.K X.mg X.base CX k f fd ps sp) (g : X.A.guards = some []) (hr : Room k X.A) (hb : Binds X.K fd ps ds) (hd : Vals dvs ds) (hx : Passes CX X E)
    (I : Inv X pins σ H s) (r : Vals vs us) (h : sp (vs ++ dvs) H Q E) : wpAny (model X.prog X.w) X.A (call (.ref f) us) (EP X pins σ Q) X.xe s := by
  have all := r.append hd
  have hz : (us ++ ds).length = ps.length := all.length ▸ F.many _ _ _ _ h
  have go := F.goes X.A g hr X.stack s H ⟨us, []⟩ (us ++ ds) (vs ++ dvs) Q E h all (hb s us I.kIn hz) I.env0
  refine wpAny_call (codeAny_mono go ?_)
  rintro (e | fl) s2 hq
  · exact hx pins σ H s e s2 I hq
  · cases fl with
    | ret u => exact I.after hq
    | _ => exact False.elim hq
theorem pe_callG (F : FnG X.prog X.w X.K X.mg X.base CX k f fd ps sp) (g : X.A.guards = some []) (hr : Room k X.A) (hg : Gl X x) (hm : X.mg x = some (.ref f)) (hk : PySem.W.keepIn X.K (.ref f) = true) (hb : Binds X.K fd ps ds) (hd : Vals dvs ds) (hx : Passes CX X E)
    (ha : PA X (e :: es) t) (hdb : (x == ("__debug__" : Str)) = false := by decide) (he : starEach (e :: es) X.env = (false, eval e X.env) :: starEach es X.env := by rfl) (hpl : (backTo pos (starEach es X.env)).any (·.1) = false := by rfl) :
    PE X (.Call (.Name x p) (e :: es) [] pos) (tCall sp dvs E t) :=
  ⟨fun pins s σ H Q I h => wpAny_Call_Name_kw (ld_glob I hg hm (PySem.W.callWith_K (h₀ := X.base) I.ok.mod.kin hk (thn (ha.run pos pins s σ H _ I h) fun us s1 q => by
    obtain ⟨vs, H1, I1, r, q⟩ := q
    exact ⟨I1.kIn, runG F g hr hb hd hx I1 r q⟩) he hpl) hdb)⟩
end
section
variable {P : Program} {w : PySem.World} {K : PySem.W.Frag} {T : Tb} {mg : Str → Option Value} {base : Heap}
end
end DL

/-! the end of a law that shows what it saw -/
namespace DL
open L2 PySem PySem.Spec PyProof.Rows LamX
/-- what the walk knows at the entry: empty tables ts, the script at a where the frame has it not -/
def begH (K : PySem.W.Frag) (ts : List Addr) (a : Addr) (ob : Obj) (u : HO) : Hp := fun b => if b ∈ ts then some (.tbl #[]) else if b = a ∧ K.lookup a = none then some (.frz ob u) else none
section
variable {K : PySem.W.Frag} {ts : List Addr} {a b : Addr} {ob : Obj} {u : HO}
theorem begH_t (h : b ∈ ts) : begH K ts a ob u b = some (.tbl #[]) := if_pos h
theorem begH_a (h : a ∉ ts) (k : K.lookup a = none) : begH K ts a ob u a = some (.frz ob u) := by
  unfold begH
  rw [if_neg h, if_pos ⟨rfl, k⟩]
theorem begH_inv {o : HO} (h : begH K ts a ob u b = some o) : (b ∈ ts ∧ o = .tbl #[]) ∨ (b ∉ ts ∧ b = a ∧ K.lookup a = none ∧ o = .frz ob u) := by
  unfold begH at h
  split at h
  · rename_i m
    exact .inl ⟨m, (Option.some.inj h).symm⟩
  · rename_i m
    split at h
    · rename_i q
      exact .inr ⟨m, q.1, q.2, (Option.some.inj h).symm⟩
    · cases h
theorem begH_n (h1 : b ∉ ts) (h2 : b = a → K.lookup a = none → False) : begH K ts a ob u b = none := by
  cases h : begH K ts a ob u b with
  | none => rfl
  | some o =>
    rcases begH_inv h with ⟨m, _⟩ | ⟨_, e, k, _⟩
    · exact (h1 m).elim
    · exact (h2 e k).elim
end
section
variable {P : Program} {w : PySem.World} {K : PySem.W.Frag} {mg mb : Str → Option Value} {CX : CXT} {k : Nat} {fa a : Addr} {cs : List (Addr × Addr)} {fd : FuncData} {x : Str} {sp : Sp} {s : Shared} {vs : List Value} {ns : List Int}
theorem end_call (KX : K.In s.heap) (gl : s.heap.Ns mainGlobals mg) (bl : s.heap.Ns builtinsNs mb) (bb : ∀ x : Str, x ≠ "__name__" → mb x = bootBuiltins x) (nl : s.heap.NoLimit) (ng : s.gens = #[])
    (hT : ∀ p ∈ cs, s.heap.get? p.2 = some { cls := .none, data := .fields #[] }) (nT : ∀ p ∈ cs, K.lookup p.2 = none) (hC : ∀ p ∈ cs, PySem.W.CodeHd s.heap p.1 p.2)
    (bm : ∃ (m : Addr) (o : Obj), mg "__builtins__" = some (.ref m) ∧ m ≠ builtinsNs ∧ s.heap.get? m = some o ∧ o.cls = .type "module" ∧ o.dict = some builtinsNs ∧ o.data = .plain)
    (ha : s.heap.get? a = some { cls := .type "list", data := .seq vs.toArray }) (hi : IntsAre vs ns) (hl : ns.length ≤ sizeLine) (hr : Room k callerA)
    (F : ∀ base : Heap, K.In base → base.Ns mainGlobals mg → (∀ p ∈ cs, TabB base mg p.1 p.2) → FnG P w K mg base CX k fa fd [x] sp) (hbind : ∀ (s : Shared) (u : Value), BindsTo s fd ⟨[u], []⟩ [(x, u)])
    (hsp : ∀ H : Hp, (∀ p ∈ cs, H p.2 = some (.tbl #[])) → SqL K H a (ns.map V.int) → sp [.ref a] H (fun v _ => v = .bl true) fun _ _ _ => False)
    (hX : ∀ H e s', CX [] H s (fun _ _ _ => False) e s' → False) :
    codeAny (model P w) callerA (.call (.ref fa) ⟨[.ref a], []⟩) (fun r s' => r = .ok (.ret (.bool true)) ∧ OldK s.heap s'.heap ∧ s'.os = s.os ∧ AllBare s'.gens) s := by
  have hv := vals_ints hi
  have hn : vs.length = ns.length := hi.length
  have seen : ∀ b ∈ cs.map (·.2), s.heap.get? b = some { cls := .none, data := .fields #[] } ∧ K.lookup b = none := fun b m => by
    obtain ⟨p, hp, rfl⟩ := List.mem_map.mp m
    exact ⟨hT p hp, nT p hp⟩
  have na : a ∉ cs.map (·.2) := fun m => by
    have z := (seen a m).1
    rw [ha] at z
    injection z with z
    injection z with _ _ z
    cases z
  have here : ∀ p ∈ cs, p.2 ∈ cs.map (·.2) := fun p hp => List.mem_map.mpr ⟨p, hp, rfl⟩
  let H : Hp := begH K (cs.map (·.2)) a { cls := .type "list", data := .seq vs.toArray } (.lst (ns.map V.int))
  have HT : ∀ p ∈ cs, H p.2 = some (.tbl #[]) := fun p hp => begH_t (here p hp)
  have HS : SqL K H a (ns.map V.int) := by
    cases q : K.lookup a with
    | none => exact .inl (.inr ⟨_, begH_a na q⟩)
    | some o =>
      have z := KX a o q
      rw [ha] at z
      cases z
      exact .inr ⟨_, vs.toArray, _, q, rfl, rfl, rfl, by simpa [hn] using hl, by simpa using hv⟩
  have HO : HOk P w H s.heap := fun b o h => by
    rcases begH_inv h with ⟨m, rfl⟩ | ⟨_, rfl, _, rfl⟩
    · exact (seen b m).1
    · exact ⟨ha, by simpa using hl, vs, _, hv, ha⟩
  -- an object of another form is not tracked
  have apart : ∀ {b : Addr} {o : Obj}, s.heap.get? b = some o → o.data ≠ .seq vs.toArray → o.data ≠ .fields #[] → H b = none := fun {b o} e h1 h2 => begH_n (fun m => by
    have z := (seen b m).1
    rw [e] at z
    cases z
    exact h2 rfl) fun r _ => by
      subst r
      rw [ha] at e
      cases e
      exact h1 rfl
  have space : ∀ {b : Addr} {m : Str → Option Value}, s.heap.Ns b m → (hidT s.heap H).Ns b m := fun {b m} ⟨o, es, ep, e, d, r⟩ => ⟨o, es, ep, hidT_get e (apart e (by rw [d]; exact fun z => by cases z) (by rw [d]; exact fun z => by cases z)), d, r⟩
  have kin : K.In (hidT s.heap H) := fun b o e => hidT_get (KX b o e) (begH_n (fun m => by rw [(seen b m).2] at e; cases e) fun r q => by rw [r, q] at e; cases e)
  have md : L2.Mod K mg (hidT s.heap H) := ⟨kin, space gl, ⟨mb, space bl, bb⟩, nl.imp fun c h => ⟨space h.1, h.2⟩⟩
  have glD : ∃ o es ep, s.heap.get? mainGlobals = some o ∧ o.data = .dict es ep := by
    obtain ⟨o, es, ep, e, d, _⟩ := gl
    exact ⟨o, es, ep, e, d⟩
  have tb : ∀ p ∈ cs, TabB (hidT s.heap H) mg p.1 p.2 := fun p hp => by
    obtain ⟨og, es, ep, eg, dg⟩ := glD
    refine ⟨?_, ?_, fun z => by rw [z, hT p hp] at eg; cases eg; cases dg⟩
    · obtain ⟨o, us, f, tf, fl, tg, iF, tx, tt, e, c1, c2, c3, rest⟩ := hC p hp
      refine ⟨o, us, f, tf, fl, tg, iF, tx, tt, hidT_get e (apart e (by rw [c2]; exact fun z => by cases z) ?_), c1, c2, c3, rest⟩
      rw [c2]
      intro z
      cases z
      simp at c3
    · obtain ⟨m, o, b1, b2, b3, b4, b5, b6⟩ := bm
      refine ⟨m, o, b1, b2, fun z => ?_, fun z => ?_, hidT_get b3 (apart b3 (by rw [b6]; exact fun z => by cases z) (by rw [b6]; exact fun z => by cases z)), b4, b5, b6⟩
      · rw [z, eg] at b3
        cases b3
        rw [dg] at b6
        cases b6
      · rw [z, hT p hp] at b3
        cases b3
        cases b6
  have e0 : Env0 P w K mg (hidT s.heap H) callerA [] s H := {
    frames := rfl
    mod := md
    bs := fun b o e => of_hidT e
    bsz := Nat.le_of_eq (hidT_size _ _)
    funs := trivial
    frf := fun b m => absurd m (by show b ∉ ([] : List Addr); simp)
    hok := HO
    bare := .of_eq ng }
  refine codeAny_mono ((F _ kin (space gl) tb).goes callerA rfl hr [] s H ⟨[.ref a], []⟩ [.ref a] [.ref a] _ _ (hsp H HT HS) (.cons rfl .nil) (hbind s (.ref a)) e0) ?_
  rintro (e | fl) s2 h
  · exact (hX H e s2 h).elim
  · cases fl with
    | ret u =>
      obtain ⟨v, H2, os, bare, un, ok2, rv, rfl⟩ := h
      have eu : u = Value.bool true := rv
      subst eu
      have rest : ∀ b o, b ∉ cs.map (·.2) → s.heap.get? b = some o → s2.heap.get? b = some o := fun b o m e => by
        cases q : H b with
        | none => exact un.keep b o e q (by show b ∉ ([] : List Addr); simp) (by simp)
        | some y =>
          rcases begH_inv q with ⟨m2, _⟩ | ⟨_, rfl, _, rfl⟩
          · exact (m m2).elim
          · rw [ha] at e
            cases e
            exact (ok2 _ _ (un.frzs _ _ _ q)).1
      have tabs : ∀ p ∈ cs, ∃ more : Array Value, s2.heap.get? p.2 = some { cls := .none, data := .fields (#[] ++ more) } := fun p hp => (un.tbls p.2 #[] (HT p hp)).imp fun more z => ok2 p.2 (.tbl (#[] ++ more)) z
      refine ⟨rfl, ⟨fun b o e => ?_, fun b o e => ?_⟩, os, bare⟩ <;> by_cases m : b ∈ cs.map (·.2)
      · obtain ⟨p, hp, rfl⟩ := List.mem_map.mp m
        obtain ⟨more, z⟩ := tabs p hp
        rw [hT p hp] at e
        cases e
        exact .inr (.inl ⟨((hC p hp).tab (hT p hp)).isCodeTable, rfl, #[], more, rfl, z⟩)
      · exact .inl (rest b o m e)
      · obtain ⟨p, hp, rfl⟩ := List.mem_map.mp m
        exact (tabs p hp).elim fun _ z => ⟨_, z⟩
      · exact ⟨o, rest b o m e⟩
    | _ => exact False.elim h
/-- what is known of the law's promise at the head's heap h -/
def LawG (l : PySem.W.OpenLaw) (w : PySem.World) (K : PySem.W.Frag) (CX : CXT) (k n : Nat) (x : Str) (mg : Str → Option Value) (fa : Addr) (h : Heap) : Prop :=
  ∃ (cs : List (Addr × Addr)) (fd : FuncData) (sp : Sp), ((∀ p ∈ cs, h.get? p.2 = some { cls := .none, data := .fields #[] }) ∧ (∀ p ∈ cs, PySem.W.CodeHd h p.1 p.2) ∧ ∀ p ∈ cs, K.lookup p.2 = none) ∧
    (∀ base : Heap, K.In base → base.Ns mainGlobals mg → (∀ p ∈ cs, TabB base mg p.1 p.2) → FnG l.prog w K mg base CX k fa fd [x] sp) ∧ (∀ (s : Shared) (u : Value), BindsTo s fd ⟨[u], []⟩ [(x, u)]) ∧
    ∀ (H : Hp) (a : Addr) (ns : List Int), ns.length ≤ n → (∀ z ∈ ns, Builtin.Int.intBits z ≤ 1048576) → (∀ p ∈ cs, H p.2 = some (.tbl #[])) → SqL K H a (ns.map V.int) → sp [.ref a] H (fun v _ => v = .bl true) fun _ _ _ => False
end
end DL

/-! objects that are made: __init__ and its caller -/
namespace DL
open L2 PySem PySem.Spec PyProof.Rows
open Evl (Ex ex_l ex_t sz_of)
def noMe : List SV → Bool
  | [] => true
  | .me _ _ _ _ :: _ => false
  | _ :: ss => noMe ss
theorem noMe_get : ∀ {ρ : List SV} {i : Nat} {x C : Addr} {ns : List Str} {ds : List D}, noMe ρ = true → ρ[i]? ≠ some (.me x C ns ds)
  | [], i, x, C, ns, ds, _ => by simp
  | s :: ss, 0, x, C, ns, ds, h => by
    intro e
    simp at e
    subst e
    exact absurd h (by simp [noMe])
  | s :: ss, i + 1, x, C, ns, ds, h => by
    have h' : noMe ss = true := by cases s <;> first | exact h | (exact absurd h (by simp [noMe]))
    simpa using noMe_get (i := i) h'
def meD (ρ : List SV) (k : Addr → Addr → List Str → List D → List SV → Prop) : Prop := match ρ with
  | .me x C ns ds :: r => k x C ns ds r
  | _ => False
def xsMe (K : PySem.W.Frag) (f : Str) (F : DT) : DTS := fun DD ρ n XP => F ρ n (fun d n1 => meD ρ fun x C ns ds r => noMe r = true ∧ Cls K C ∧ NoAttr K C f ∧ ns.length < 900 ∧ ns.contains f = false ∧ DD.nx (.me x C (ns ++ [f]) (ds ++ [d]) :: r) n1) XP
theorem putF_new {f : Str} {v : V} : ∀ {fs : List (Str × V)}, (fs.map (·.1)).contains f = false → (putF f v fs) = fs ++ [(f, v)]
  | [], _ => rfl
  | (g, y) :: fs, h => by
    have h0 : ((g :: fs.map (·.1)).contains f) = false := h
    rw [List.contains_cons, Bool.or_eq_false_iff] at h0
    have hg : ¬ g = f := fun e => by
      rw [e] at h0
      simp at h0
    show (if g = f then (g, v) :: fs else (g, y) :: putF f v fs) = _
    rw [if_neg hg, putF_new h0.2]
    rfl
section
variable {K : PySem.W.Frag} {T : Tb} {S : SA} {E : XK} {Hb H Hb1 H1 : Hp} {n n1 : Nat} {te : TE} {FE : DT} {ta : TA} {G : DTA}
/-- an object of one's own is rewritten -/
theorem World.put {p : Addr} {o u : HO} (w : World T S Hb H) (h1 : H p = some o) (h2 : Hb p = none) (nt : ∀ ps, o ≠ .tbl ps) (nx : ∀ φ, o ≠ .ext φ) (nu : ∀ ps, u ≠ .tbl ps) : World T S Hb (upd H p u) := by
  refine ⟨fun b y e => by rw [upd_ne (fun z => by rw [z, h2] at e; cases e)]; exact w.ex b y e, fun q hq => ?_, w.tb, w.sa.upd nu, w.sl.upd nu, w.sc.upd nu, w.nt⟩
  obtain ⟨ps, e, t1, t2⟩ := w.tabs q hq
  refine ⟨ps, by rw [upd_ne (fun z => by rw [z, h1] at e; exact nt _ (Option.some.inj e))]; exact e, t1, fun pos cv hcv => ?_⟩
  obtain ⟨c, e1, e2⟩ := t2 pos cv hcv
  exact ⟨c, e1, by rw [upd_ne (fun z => by rw [z, h1] at e2; exact codeO_no nx (Option.some.inj e2))]; exact e2⟩
theorem rds_fldM {f : Str} (h1 : DL.Rd K T S E te FE) : RdS K T S E (sFld K (tVar 0) te f) (xsMe K f FE) := fun σ ρ Hb0 H0 n0 Hb H n DD XP D a sl h q x => by
  refine h1 σ ρ Hb H n _ XP _ a.wd sl.sl h (fun d v n1 Hb1 H1 s hd pp => ?_) (x.step a)
  cases ρ with
  | nil => exact pp.elim
  | cons s0 r =>
    cases s0 with
    | me y C ns ds =>
      obtain ⟨nm, hc, ha, hl, hf, pp⟩ := pp
      have sl1 := sl.step s
      obtain ⟨o, e1, rfl, dx, fs, g1, g2, g3, g4, g5, g6, g7⟩ := sl1.sl.ok 0 _ rfl
      subst g6
      have f0 : Fresh H0 y := sl1.fr 0 _ y rfl rfl e1
      have ht : ∀ ps, HO.ins C dx fs ≠ .tbl ps := fun ps z => by cases z
      have hx : ∀ φ, HO.ins C dx fs ≠ .ext φ := fun ps z => by cases z
      have nu : ∀ ps, HO.ins C dx (putF f v fs) ≠ .tbl ps := fun ps z => by cases z
      have as := a.trans s
      refine ⟨.ref y, e1, y, C, dx, fs, rfl, g1, hc, ha, by rw [List.length_map] at hl; omega, ?_⟩
      have keep : ∀ {b : Addr} {o : HO}, H1 b = some o → b ≠ y → upd H1 y (.ins C dx (putF f v fs)) b = some o := fun e hb => by rw [upd_ne hb]; exact e
      refine q.nx (.me y C (fs.map (·.1) ++ [f]) (ds ++ [d]) :: r) _ n1 Hb1 _ s.ex ⟨as.ex, as.wd.put g1 g2 ht hx nu, fun h0 => ?_, fun b o e1 e2 e3 e4 e5 => ?_, fun b e => as.dm b (dm_upd nu b e)⟩ ⟨⟨sl1.sl.len, fun j t ej => ?_, fun j k p xs ys jk ej ek sj sk => ?_⟩, fun j t p ej eo sj => ?_⟩ pp
      · obtain ⟨k1, k2, ls, cs, m, t, k3, k4, k5, k6, k7, k8, rest⟩ := as.st h0
        exact ⟨k1, k2, ls, cs, m, t, k3, k4, k5, keep k6 g3.symm, keep k7 g4.symm, k8, rest⟩
      · have hb : b ≠ y := f0.ne e1 e5
        rw [upd_ne hb]
        exact as.own0 b o e1 e2 e3 e4 e5
      · cases j with
        | zero =>
          cases ej
          refine ⟨_, e1, rfl, dx, _, upd_same, g2, g3, g4, g5, ?_, ?_⟩
          · rw [putF_new hf]
            simp
          · rw [putF_new hf]
            simpa using g7.app (.one hd)
        | succ j =>
          have ej' : (SV.me y C (fs.map (·.1)) ds :: r)[j + 1]? = some t := ej
          have ejr : r[j]? = some t := ej
          obtain ⟨o, k1, k2⟩ := sl1.sl.ok (j + 1) t ej'
          refine ⟨o, k1, ?_⟩
          cases t with
          | no => trivial
          | d x => exact k2
          | st =>
            obtain ⟨k3, m1, m2, ls, cs, m, t, m3, m4, m5, m6, m7, m8, rest⟩ := k2
            exact ⟨k3, m1, m2, ls, cs, m, t, m3, m4, m5, keep m6 g3.symm, keep m7 g4.symm, m8, rest⟩
          | ol zs =>
            obtain ⟨p, ws, k3, k4, rest⟩ := k2
            exact ⟨p, ws, k3, keep k4 (fun z => by rw [z, g1] at k4; cases k4), rest⟩
          | me _ _ _ _ => exact absurd ejr (noMe_get nm)
          | od ks zs =>
            obtain ⟨p, kvs, k3, k4, rest⟩ := k2
            exact ⟨p, kvs, k3, keep k4 (fun z => by rw [z, g1] at k4; cases k4), rest⟩
          | ot ks zs =>
            obtain ⟨p, kvs, k3, k4, rest⟩ := k2
            exact ⟨p, kvs, k3, keep k4 (fun z => by rw [z, g1] at k4; cases k4), rest⟩
          | fv F =>
            obtain ⟨f', c', k3, k4, k5, rest⟩ := k2
            exact ⟨f', c', k3, k4, keep k5 (fun z => by rw [z, g1] at k5; exact codeO_no (o := .ins C dx fs) (fun _ z => by cases z) (Option.some.inj k5)), rest⟩
      · cases j with
        | zero => cases ej
        | succ j =>
          cases k with
          | zero => cases ek
          | succ k => exact sl1.sl.ap (j + 1) (k + 1) p xs ys jk ej ek sj sk
      · cases j with
        | zero =>
          have z : p = y := by
            rw [e1] at sj
            exact (V.ref.inj (Option.some.inj (Option.some.inj sj))).symm
          rw [z]
          exact f0
        | succ j => exact sl1.fr (j + 1) t p ej eo sj
    | _ => exact pp.elim

/-! ### __init__ -/
abbrev DSI := List SV → Nat → (List Str → List D → Nat → Prop) → DX → Prop
def spI (K : PySem.W.Frag) (T : Tb) (C : Addr) (DS : DSI) : Sp := fun vs H Q E => ∃ S Hb H1 n x dx ss us P XP, vs = .ref x :: us ∧ H = upd (upd H1 dx (.own x)) x (.ins C dx []) ∧ H1 x = none ∧ H1 dx = none ∧ dx ≠ x ∧ World T S Hb H1 ∧ Args K S Hb H1 n ss us ∧ (noOl ss = true ∧ DS ss n P XP) ∧
  (∀ ns ds dy fs n' Hb' H', Stp K T S Hb H1 n Hb' H' n' → H' x = some (.ins C dy fs) → Hb' x = none → fs.map (·.1) = ns → DnA K Hb' (fs.map (·.2)) ds → P ns ds n' → Q .non H') ∧ XOk K T S Hb H1 n XP E
theorem noL_me {ss : List SV} {x C : Addr} {ns : List Str} {ds : List D} (h : noOl ss = true) : noL (.me x C ns ds :: ss) = true := by
  have z : noL ss = true := noL_of h
  exact z
variable {P : Program} {w : PySem.World} {mg : Str → Option Value} {base : Heap}
theorem okI {x qual : Str} {st : Stmt} {f C : Addr} {fd : FuncData} {N ps : List Str} {k : Nat} {DS : DSI} (F : Fun K x qual st f fd) (Sc : FnScope N ps (defScope st)) (len : ∀ ss n P XP, DS ss n P XP → ss.length + 1 = ps.length)
    (hb : ∀ (S : SA) (cdv : Value) (A : Around) (outer : List Env) (s : Shared) (H : Hp) (E : XK), Room k (A.deeper (envOfC qual (defScope st) s.heap.objs.size f cdv)) →
      ∃ ts G, PSs (cxOf (L2.CX P w) P w K mg base N qual (defScope st) f cdv A outer s H E) (defBody st) ts ∧ RdS K T S E ts G ∧ ∀ y ss n P XP, DS ss n P XP → G { nx := fun ρ n => meD ρ fun y' C' ns ds _ => y' = y ∧ C' = C ∧ P ns ds n, rt := fun _ _ => False } (startS N (.me y C [] [] :: ss)) n XP) :
    FnOk P w K mg base (L2.CX P w) (k + 1) f fd ps (spI K T C DS) := by
  refine F.okX Sc (fun vs H Q E h => ?_) (fun cdv A outer s H vs Q E hr h => ?_)
  · obtain ⟨S, Hb, H1, n, y, dx, ss, us, P, XP, rfl, _, _, _, _, _, ha, ⟨_, hd⟩, _⟩ := h
    rw [List.length_cons, ← ha.len]
    exact len ss n P XP hd
  · obtain ⟨S, Hb, H1, n, y, dx, ss, us, P, XP, rfl, rfl, hy, hdx, ne, wd, ha, ⟨ho, hd⟩, q, x⟩ := h
    obtain ⟨ts, G, h1, h2, h3⟩ := hb S cdv A outer s _ E hr
    have s1 : Stp K T S Hb H1 n Hb (upd H1 dx (.own y)) n := .newO wd hdx
    have s2 : Stp K T S Hb H1 n Hb (upd (upd H1 dx (.own y)) y (.ins C dx [])) n := s1.trans (.newO s1.wd (by rw [upd_ne ne.symm]; exact hy))
    obtain ⟨n1, n2, n3⟩ := wd.nS (fresh_none hy)
    have hby : Hb y = none := free_of wd.ex hy
    refine ⟨ts, h1, h2 _ _ Hb H1 n Hb _ n _ XP _ s2 ⟨.start (ss := .me y C [] [] :: ss) (.cons (s := .me y C [] []) ⟨rfl, dx, [], upd_same, hby, n1, n2, n3, rfl, .nil⟩ (ha.step s2)) (noL_me ho), fun i t p ei eo sp => ?_⟩ (h3 y ss n P XP hd) ⟨fun ρ σ n' Hb' H' _ st sl p => ?_, fun _ _ _ _ _ _ _ p => p.elim, fun _ _ _ _ _ _ _ _ p => p.elim, fun _ _ _ _ _ _ _ _ p => p.elim⟩ x⟩
    · rcases start_cases ei with ei | rfl
      · cases i with
        | zero =>
          have z : p = y := by
            have z : (some (some (V.ref y)) : Option (Option V)) = some (some (.ref p)) := sp
            exact (V.ref.inj (Option.some.inj (Option.some.inj z))).symm
          rw [z]
          exact fresh_none hy
        | succ i =>
          rw [noOl_get ho ei] at eo
          cases eo
      · cases eo
    · cases ρ with
      | nil => exact p.elim
      | cons s0 r =>
        cases s0 with
        | me y' C' ns ds =>
          obtain ⟨rfl, rfl, p⟩ := p
          obtain ⟨o, e1, rfl, dy, fs, g1, g2, g3, g4, g5, g6, g7⟩ := sl.sl.ok 0 _ rfl
          exact q ns ds dy fs n' Hb' H' st g1 g2 g6 g7 p
        | _ => exact p.elim

/-! ### the caller -/
def xMake (K : PySem.W.Frag) (C : Addr) (DS : DSI) (G : DTA) : DT := fun ρ n P XP => G ρ n (fun ss n1 => InC K C ∧ noOl ss = true ∧ DS ss n1 (fun ns ds n2 => P (.ins C ns ds) n2) XP) XP
theorem made {C : Addr} {P : DQ} {Q : VK} {x dy : Addr} {fs : List (Str × V)} {ns : List Str} {ds : List D} (s : Stp K T S Hb H n Hb1 H1 n1) (ic : InC K C) (q : VOk K T S Hb H n P Q) (hx : H x = none) (e1 : H1 x = some (.ins C dy fs)) (e2 : Hb1 x = none) (e3 : fs.map (·.1) = ns) (e4 : DnA K Hb1 (fs.map (·.2)) ds) (w : World T S Hb H) (pp : P (.ins C ns ds) n1) : Q (.ref x) H1 := by
  obtain ⟨m1, m2, m3⟩ := w.nS (fresh_none hx)
  have z := s.freeze (o := .ins C dy fs) (fresh_none hx) e2 (by rw [e1]; exact fun z => by cases z) (fun ps z => by rw [e1] at z; cases z) (fun c u z => by rw [e1] at z; exact codeO_no (o := .ins C dy fs) (fun _ z => by cases z) (Option.some.inj z)) m1 m2 m3
  have e : upd H1 x (.ins C dy fs) = H1 := by
    funext b
    by_cases hb : b = x
    · rw [hb, upd_same, e1]
    · rw [upd_ne hb]
  rw [e] at z
  exact q _ _ n1 _ _ z (.ins ic upd_same e3 (e4.up (Ex.new e2))) pp
theorem rd_make {C : Addr} {DS : DSI} (h : RdA K T S E ta G) : DL.Rd K T S E (tMake C (spI K T C DS) [] E ta) (xMake K C DS G) := fun σ ρ Hb H n P XP Q w sl hf q x =>
  h σ ρ Hb H n _ XP _ w sl hf (fun ss vs n1 Hb1 H1 s ha p y dx hy hdx ne => by
    obtain ⟨ic, ho, hd⟩ := p
    exact ⟨S, Hb1, H1, n1, y, dx, ss, vs, _, XP, by rw [List.append_nil], rfl, hy, hdx, ne, s.wd, ha, ⟨ho, hd⟩, fun ns ds dy fs n' Hb' H' s2 e1 e2 e3 e4 pp => ⟨rfl, made s2 ic (q.step s) hy e1 e2 e3 e4 s.wd pp⟩, x.step s⟩) x
end
end DL

/-! a def that makes lambdas; work() caught -/
namespace DL
open L2 PySem PySem.Spec PyProof.Rows
open Evl (Ex ex_l ex_t sz_of)
/-- a def with its code object at c -/
structure FunC (K : PySem.W.Frag) (x qual : Str) (st : Stmt) (f : Addr) (fd : FuncData) (c : Addr) : Prop where
  ex : ∃ (oc : Value) (od : Option Addr) (kV doc pm : Value) (an : Option Addr) (ct : Value) (osl : Array (Option Value)),
    fd = PySem.W.fnOf x qual (defArgs st) (defBody st) (defScope st) .none kV doc pm an (.ref c) ct ∧ K.lookup f = some ⟨oc, od, .func fd, osl⟩ ∧ PySem.W.codeIn K (.ref c) qual = true
section
variable {P : Program} {w : PySem.World} {K : PySem.W.Frag} {T : Tb} {mg : Str → Option Value} {base : Heap}
theorem fnC_okD {x qual : Str} {st : Stmt} {f c : Addr} {fd : FuncData} {N ps : List Str} {k : Nat} {DS : DSp0} (F : FunC K x qual st f fd c) (Sc : FnScope N ps (defScope st)) (len : ∀ ss n P, DS ss n P → ss.length = ps.length)
    (hb : ∀ (S : SA) (A : Around) (outer : List Env) (s : Shared) (H : Hp) (E : XK), A.guards = some [] → Room k (A.deeper (envOfC qual (defScope st) s.heap.objs.size f (.ref c))) →
      ∃ ts G, PSs (cxOf CX0 P w K mg base N qual (defScope st) f (.ref c) A outer s H E).nox (defBody st) ts ∧ RdS K T S E0 ts G ∧ ∀ ss n P, DS ss n P → G { nx := fun _ n => P .non n, rt := P } (startS N ss) n xF) :
    FnG P w K mg base CX0 (k + 1) f fd ps (sp0 K T DS) := by
  obtain ⟨oc, od, kV, doc, pm, an, ct, osl, rfl, lk, hcd⟩ := F.ex
  have hl : ∀ vs H Q E, sp0 K T DS vs H Q E → vs.length = ps.length := fun vs H Q E h => by
    obtain ⟨S, Hb, n, ss, P, XP, _, ha, ⟨_, hd⟩, _⟩ := h
    rw [← ha.len]
    exact len ss n P hd
  refine ⟨hl, fun A g hr out s H args us vs Q E h r b e => LamX.run_ofS lk hcd Sc hr e b r (hl _ _ _ _ h) fun hr2 => ?_⟩
  obtain ⟨S, Hb, n, ss, P, XP, wd, ha, ⟨ho, hd⟩, q, _⟩ := h
  obtain ⟨ts, G, h1, h2, h3⟩ := hb S A out s H E g hr2
  exact ⟨ts, h1.nox, h2 _ _ Hb H n Hb H n _ xF _ (.refl wd) ⟨.start ha (noL_of ho), start_fr ho⟩ (h3 ss n P hd) ⟨fun ρ σ n' Hb' H' _ st _ p => q _ _ _ _ _ st .non p, q, fun _ _ _ _ _ _ _ _ p => p.elim, fun _ _ _ _ _ _ _ _ p => p.elim⟩ .none⟩
/-- what the frame that makes a lambda must know: its own code object and the table there -/
structure MakesAt (base : Heap) (mg : Str → Option Value) (T : Tb) (q : Str) (c : Addr) : Prop where
  ex : ∃ P, LamX.TabB base mg c P ∧ (P, q) ∈ T ∧ ∀ p ∈ T, p.1 = P → p.2 = q
end
section
variable {X : Cx} {T : Tb}
/-- _law_caught(lambda: body) -/
theorem lam_call {st : Stmt} {CS c : Addr} {k : Nat} {params : Arguments} {body : Expr} {scope : Scope} {t : XK → TE} {p lpos pos : Pos} (D : DefAt X.K X.mg "_law_caught" st ["work"]) (Sg : FnScope ["work", "caught", "error"] ["work"] (defScope st))
    (hG : ∀ g cdg, LamX.GivesTo X ["work", "caught", "error"] "_law_caught" (defScope st) g cdg (defBody st) "work" (X.env.qual ++ "<lambda>") (TTc X.K CS))
    (M : MakesAt X.base X.mg T (X.env.qual ++ "<lambda>") c) (hcode : X.env.code = .ref c) (hr : Room (k + 2) X.A) (L : LamX.LamS X.env.scope scope) (hg : Gl X "_law_caught") (hdef : defaultsOf params X.env = ([], []))
    (hbind : ∀ (q : Str) (cl : List (Str × Addr)) (pm cv ctv : Value), bindArgs (PySem.W.kla_fn "<lambda>" q params body scope cl pm cv ctv) ⟨[], []⟩ = pure [])
    (hbody : ∀ (A : Around) (outer : List Env) (s : Shared) (H : Hp) (E : XK) (f c' : Addr), Room k (A.deeper (LamX.lamEnv X scope s.heap.objs.size f c')) → PE (LamX.lamCx X A outer s H E scope f c') body (t E)) :
    PE X (.Call (.Name "_law_caught" p) [.Lambda params body scope lpos] [] pos) (LamX.tLam T (TTc X.K CS) t) := by
  obtain ⟨g, fd, F, hm, hk, hb⟩ := D
  obtain ⟨oc, od, kV, doc, pm, an, cdv, ct, osl, rfl, lk, hcd⟩ := F.ex
  obtain ⟨P, TB, hmT, hu⟩ := M.ex
  exact LamX.pe_lamcall (Ng := ["work", "caught", "error"]) hg hm hk lk hcd hb Sg rfl (Sg.par "work" (by simp) |>.elim (fun q => .inl q) fun q => .inr (.inl q)) (hG g cdv) TB hcode hmT hu hr L hdef hbind hbody
end
end DL

/-! how defs and classes stand, in short; keywords of a class -/
namespace DL
open L2 PySem PySem.Spec PyProof.Rows
open Evl (Ex ex_l ex_t sz_of)
def gsw {α : Type} : List α → List α → List α
  | [s], [a, b] => [s, b, a]
  | us, ws => us ++ ws
theorem gsw_rel {vs : List V} {us : List Value} {zs : List V} {ws : List Value} (h : Vals vs us) (g : Vals zs ws) : Vals (gsw vs zs) (gsw us ws) := by
  have d : Vals (vs ++ zs) (us ++ ws) := h.append g
  cases h with
  | nil => simpa [gsw] using d
  | cons a ra =>
    cases ra with
    | cons b rb => simpa [gsw] using d
    | nil =>
      cases g with
      | nil => simpa [gsw] using d
      | cons b rb =>
        cases rb with
        | nil => simpa [gsw] using d
        | cons c rc =>
          cases rc with
          | nil => exact .cons a (.cons c (.cons b .nil))
          | cons e re => simpa [gsw] using d
/-- a class whose __init__ takes two values -/
def Init2 (K : PySem.W.Frag) (qual : Str) (C : Addr) (st : Stmt) (a b : Str) : Prop :=
  ∃ f fd, Fun K "__init__" qual st f fd ∧ Mk K C f ∧ Binds K fd ["self", a, b] [] ∧ KBn K fd ["self", a, b] 1 [b, a] gsw gsw
def HasI (P : Program) (w : PySem.World) (K : PySem.W.Frag) (mg : Str → Option Value) (base : Heap) (k : Nat) (C : Addr) (a b : Str) (sp : Sp) : Prop :=
  ∃ f fd, FnOk P w K mg base (L2.CX P w) k f fd ["self", a, b] sp ∧ Mk K C f ∧ Binds K fd ["self", a, b] [] ∧ KBn K fd ["self", a, b] 1 [b, a] gsw gsw
def HasG (P : Program) (w : PySem.World) (K : PySem.W.Frag) (mg : Str → Option Value) (base : Heap) (CX : CXT) (k : Nat) (name : Str) (ps : List Str) (sp : Sp) : Prop :=
  ∃ f fd, FnG P w K mg base CX k f fd ps sp ∧ mg name = some (.ref f) ∧ PySem.W.keepIn K (.ref f) = true ∧ Binds K fd ps []
def DefC (K : PySem.W.Frag) (mg : Str → Option Value) (name : Str) (st : Stmt) (ps : List Str) (c : Addr) : Prop :=
  ∃ f fd, FunC K name name st f fd c ∧ mg name = some (.ref f) ∧ PySem.W.keepIn K (.ref f) = true ∧ Binds K fd ps []
section
variable {K : PySem.W.Frag} {T : Tb} {S : SA} {E : XK} {ta : TA} {G : DTA}
end
end DL

/-! the source of draws is made; a law's own def -/
namespace DL
open L2 PySem PySem.Spec PyProof.Rows
open Evl (Ex ex_l ex_t sz_of)
def stBegun (l c : Addr) : List (Key × V) := [(kLarge, .ref l), (kCells, .ref c), (kLeft, .int 0), (kTurn, .int 0)]
/-- _law_begun(script) -/
def spBegun (K : PySem.W.Frag) : Sp := fun vs H Q _ => ∃ (a : Addr) (ns : List Int), vs = [.ref a] ∧ SqL K H a (ns.map V.int) ∧ ns.length ≤ 63 ∧
  ∀ (c l d : Addr) (cs ls : List Int) (H' : Hp), H c = none → H l = none → H d = none → c ≠ l → c ≠ d → l ≠ d → H' c = some (.lst (cs.map V.int)) → H' l = some (.lst (ls.map V.int)) → H' d = some (.dK (stBegun l c)) →
    (∀ b, b ≠ c → b ≠ l → b ≠ d → H' b = H b) → (∀ x ∈ cs, 0 ≤ x) → (∀ x ∈ ls, 0 ≤ x) → cs.length ≤ 63 → ls.length ≤ 63 → Q (.ref d) H'
section
variable {K : PySem.W.Frag} {T : Tb} {H H' : Hp} {a c l d : Addr} {ns cs ls : List Int}
theorem world_from {Hb : Hp} (tabs : LamX.Tabs T H) (hc : H c = none) (hl : H l = none) (hd : H d = none) (cl : c ≠ l) (cd : c ≠ d) (ld : l ≠ d) (e1 : H' c = some (.lst (cs.map V.int))) (e2 : H' l = some (.lst (ls.map V.int))) (e3 : H' d = some (.dK (stBegun l c)))
    (keep : ∀ b, b ≠ c → b ≠ l → b ≠ d → H' b = H b) (p1 : ∀ x ∈ cs, 0 ≤ x) (p2 : ∀ x ∈ ls, 0 ≤ x) (l1 : cs.length ≤ 63) (l2 : ls.length ≤ 63) (eb : Ex Hb H) (nt : ∀ b ps, Hb b ≠ some (.tbl ps)) :
    World T ⟨d, l, c, cs⟩ (upd Hb c (.lst (cs.map V.int))) H' ∧ StOk K ⟨d, l, c, cs⟩ (upd Hb c (.lst (cs.map V.int))) H' 0 := by
  have kp : ∀ {b : Addr} {o : HO}, H b = some o → H' b = some o := fun {b o} e => by
    rw [keep b (ne_of_none e hc) (ne_of_none e hl) (ne_of_none e hd)]
    exact e
  have fb : ∀ {b : Addr}, H b = none → Hb b = none := fun h => Evl.fresh_back eb h
  refine ⟨⟨fun b o e => ?_, fun p hp => (tabs p hp).ext fun b o e => kp e, fun p hp => ?_, ⟨_, e3, (fun _ z => by cases z)⟩, ⟨_, e2, (fun _ z => by cases z)⟩, ⟨_, e1, (fun _ z => by cases z)⟩, fun b ps z => ?_⟩, ?_⟩
  · by_cases hb : b = c
    · rw [hb, upd_same] at e
      rw [hb, e1]
      exact e
    · rw [upd_ne hb] at e
      exact kp (eb b o e)
  · obtain ⟨ps, e, _⟩ := tabs p hp
    rw [upd_ne (ne_of_none e hc)]
    cases h : Hb p.1 with
    | none => rfl
    | some o =>
      have z := eb _ _ h
      rw [e] at z
      cases z
      exact (nt _ _ h).elim
  · by_cases hb : b = c
    · rw [hb, upd_same] at z
      cases z
    · rw [upd_ne hb] at z
      exact nt b ps z
  · refine ⟨by rw [upd_ne cd.symm]; exact fb hd, by rw [upd_ne cl.symm]; exact fb hl, ls, cs, 0, 0, cl, cd, ld.symm, e3, e2, upd_same, p2, p1, Int.le_refl _, Nat.le_refl _, l2, l1, rfl⟩
theorem begun_world (tabs : LamX.Tabs T H) (hS : SqL K H a (ns.map V.int)) (hc : H c = none) (hl : H l = none) (hd : H d = none) (cl : c ≠ l) (cd : c ≠ d) (ld : l ≠ d) (e1 : H' c = some (.lst (cs.map V.int))) (e2 : H' l = some (.lst (ls.map V.int))) (e3 : H' d = some (.dK (stBegun l c)))
    (keep : ∀ b, b ≠ c → b ≠ l → b ≠ d → H' b = H b) (p1 : ∀ x ∈ cs, 0 ≤ x) (p2 : ∀ x ∈ ls, 0 ≤ x) (l1 : cs.length ≤ 63) (l2 : ls.length ≤ 63) :
    ∃ Hb, World T ⟨d, l, c, cs⟩ Hb H' ∧ StOk K ⟨d, l, c, cs⟩ Hb H' 0 ∧ SqL K Hb a (ns.map V.int) := by
  rcases hS with hR | hK
  · have hH : ∃ o, H a = some o ∧ (∀ ps, o ≠ .tbl ps) ∧ ∀ Hb : Hp, Hb a = some o → L2.Rd Hb a (.lst (ns.map V.int)) := by
      rcases hR with h | ⟨o, h⟩
      · exact ⟨_, h, (fun _ z => by cases z), fun Hb e => .inl e⟩
      · exact ⟨_, h, (fun _ z => by cases z), fun Hb e => .inr ⟨o, e⟩⟩
    obtain ⟨o, h, ho, rd⟩ := hH
    have eb : Ex (upd (fun _ => none) a o) H := fun b u e => by
      by_cases hb : b = a
      · rw [hb, upd_same] at e
        rw [hb, h]
        exact e
      · rw [upd_ne hb] at e
        cases e
    obtain ⟨g1, g2⟩ := world_from (K := K) tabs hc hl hd cl cd ld e1 e2 e3 keep p1 p2 l1 l2 eb (nt_upd (fun _ _ z => by cases z) ho)
    exact ⟨_, g1, g2, .inl (rd _ (by rw [upd_ne (ne_of_none h hc)]; exact upd_same))⟩
  · obtain ⟨g1, g2⟩ := world_from (Hb := fun _ => none) (K := K) tabs hc hl hd cl cd ld e1 e2 e3 keep p1 p2 l1 l2 (fun _ _ e => by cases e) (fun _ _ z => by cases z)
    exact ⟨_, g1, g2, .inr hK⟩
/-- the source of draws is stored -/
theorem Slots.setSt {S : SA} {Hb : Hp} {n : Nat} {ρ : List SV} {σ : L2.St} {i : Nat} (sl : Slots K S Hb H n ρ σ) (h : StOk K S Hb H n) : Slots K S Hb H n (ρ.set i .st) (σ.set i (some (.ref S.a))) where
  len := by rw [List.length_set, List.length_set]; exact sl.len
  ok := fun j s e => by
    by_cases hj : i = j
    · subst hj
      have hl : i < ρ.length := by
        have := (List.getElem?_eq_some_iff.mp e).1
        rwa [List.length_set] at this
      rw [List.getElem?_set_self hl] at e
      cases e
      exact ⟨_, List.getElem?_set_self (by rw [← sl.len]; exact hl), rfl, h⟩
    · rw [List.getElem?_set_ne hj] at e
      obtain ⟨o, e1, e2⟩ := sl.ok j s e
      exact ⟨o, by rw [List.getElem?_set_ne hj]; exact e1, e2⟩
  ap := fun j k q ys zs hjk ej ek sj sk => by
    have f : ∀ {m : Nat} {u : List D}, (ρ.set i .st)[m]? = some (.ol u) → i ≠ m ∧ ρ[m]? = some (.ol u) := fun {m u} e => by
      by_cases hm : i = m
      · subst hm
        have hl : i < ρ.length := by
          have := (List.getElem?_eq_some_iff.mp e).1
          rwa [List.length_set] at this
        rw [List.getElem?_set_self hl] at e
        cases e
      · rw [List.getElem?_set_ne hm] at e
        exact ⟨hm, e⟩
    obtain ⟨h1, e1⟩ := f ej
    obtain ⟨h2, e2⟩ := f ek
    rw [List.getElem?_set_ne h1] at sj
    rw [List.getElem?_set_ne h2] at sk
    exact sl.ap j k q ys zs hjk e1 e2 sj sk
/-- a law's promise: True at every script -/
def spLaw (K : PySem.W.Frag) (T : Tb) : Sp := fun vs H Q _ => ∃ (a : Addr) (ns : List Int), vs = [.ref a] ∧ SqL K H a (ns.map V.int) ∧ ns.length ≤ 63 ∧ LamX.Tabs T H ∧ ∀ H', Q (.bl true) H'
/-- state = _law_begun(script), then the rest on data -/
theorem law_body {N : List Str} {E9 : XK} {ts : TS} {Q : VK} (hN : 2 ≤ N.length) (hS : SqL K H a (ns.map V.int)) (hl : ns.length ≤ 63) (tabs : LamX.Tabs T H) (q : ∀ H', Q (.bl true) H')
    (rest : ∀ S : SA, ∃ G, RdS K T S E0 ts G ∧ G { nx := fun _ _ => False, rt := fun d _ => d = .bl true } ((startS N [.d (.lst (ns.map D.int))]).set 1 .st) 0 xF) :
    tSeq (tAsg (tCall (spBegun K) [] E9 (tCons (tVar 0) tNil)) (gName 1)) ts { nx := fun _ H' => Q .non H', rt := Q } (L2.start N [.ref a]) H := by
  refine ⟨.ref a, rfl, a, ns, rfl, hS, hl, fun c l d cs ls H' hc hl' hd cl cd ld e1 e2 e3 keep p1 p2 l1 l2 => ?_⟩
  obtain ⟨Hb, w, st, hS'⟩ := begun_world (T := T) tabs hS hc hl' hd cl cd ld e1 e2 e3 keep p1 p2 l1 l2
  obtain ⟨G, hG, g⟩ := rest ⟨d, l, c, cs⟩
  have sl0 : Slots K ⟨d, l, c, cs⟩ Hb H' 0 (startS N [.d (.lst (ns.map D.int))]) (L2.start N [.ref a]) := .start (.cons ⟨_, rfl, .lst hS' (DnA.ints ns)⟩ .nil) rfl
  refine hG _ _ Hb H' 0 Hb H' 0 _ xF _ (.refl w) ⟨sl0.setSt (i := 1) st, fun i s p ei eo _ => ?_⟩ g ⟨fun _ _ _ _ _ _ _ _ p => p.elim, fun dd v n' Hb' H2 _ hv e => ?_, fun _ _ _ _ _ _ _ _ p => p.elim, fun _ _ _ _ _ _ _ _ p => p.elim⟩ .none
  · by_cases hi : 1 = i
    · subst hi
      have h1 : 1 < (startS N [.d (.lst (ns.map D.int))]).length := by
        have := (List.getElem?_eq_some_iff.mp ei).1
        rwa [List.length_set] at this
      rw [List.getElem?_set_self h1] at ei
      cases ei
      cases eo
    · rw [List.getElem?_set_ne hi] at ei
      rcases start_cases ei with h | rfl
      · rw [noOl_get (ss := [.d (.lst (ns.map D.int))]) rfl h] at eo
        cases eo
      · cases eo
  · subst e
    cases hv
    exact q H2
end
end DL

/-! list(zip(a, b)) of two tuples -/
namespace RZ
open PySem PySem.Calls PyProof.Rows PyProof.V PySem.Spec PySem.W
section
variable {prog : Program} {w : World} {A : Around} {E : Value → Shared → Prop} {s : Shared}
/-- the zip amid its run, its tuples kept by others -/
structure ZSt (h : Heap) (z TI TO i1 i2 a b : Addr) (k : Nat) : Prop where
  ti : IsPair h TI (.ref i1) (.ref i2)
  one : h.IsTupleIter i1 a k
  two : h.IsTupleIter i2 b k
  fst : (IsZip h z TI TO .none ∧ ∃ x y, IsPair h TO x y) ∨ ∃ T f o, IsZipHeld h z TI TO T f ∧ h.get? T = some o ∧ T ≠ z ∧ T ≠ i1 ∧ T ≠ i2
theorem ZSt.at {h h' : Heap} {z TI TO i1 i2 a b : Addr} {k : Nat} (x : ZSt h z TI TO i1 i2 a b k) {S : Addr} (e : ∀ c o, c ≠ S → h.get? c = some o → h'.get? c = some o) (es : ∃ o, h'.get? S = some o) (n1 : S ≠ z) (n2 : S ≠ TI) (n3 : S ≠ TO) (n4 : S ≠ i1) (n5 : S ≠ i2) : ZSt h' z TI TO i1 i2 a b k := by
  obtain ⟨h1, h2, h3, h4⟩ := x
  refine ⟨e _ _ n2.symm h1, h2.at fun o q => e _ o n4.symm q, h3.at fun o q => e _ o n5.symm q, ?_⟩
  rcases h4 with ⟨h4, x, y, h5⟩ | ⟨T, f, o, h4, h5, h6⟩
  · exact .inl ⟨e _ _ n1.symm h4, x, y, e _ _ n3.symm h5⟩
  · by_cases hT : T = S
    · obtain ⟨o', es⟩ := es
      exact .inr ⟨T, f, o', e _ _ n1.symm h4, by rw [hT]; exact es, h6⟩
    · exact .inr ⟨T, f, o, e _ _ n1.symm h4, e _ _ hT h5, h6⟩
end
section
variable {prog : Program} {w : World} {A : Around} {s : Shared} {R : Result → Shared → Prop} {xs ys : Array Value} {z TI TO i1 i2 l1 l2 S : Addr} {N : Nat}
end
end RZ
namespace RZ
open PySem PySem.Spec PyProof.Rows L2
theorem Un.more {fs ex : List Addr} {H H1 : Hp} {h h' : Heap} {a : Addr} {o : HO} (u : Un fs ex H H1 h h') (hp : h.objs.size ≤ a) (hn : H1 a = none) : Un fs ex H (upd H1 a o) h h' where
  keep := u.keep
  slot := u.slot
  free := fun b ob q n hx => by rw [upd_ne (Nat.ne_of_lt (Nat.lt_of_lt_of_le (Heap.lt_size q) hp))]; exact u.free b ob q n hx
  there := u.there
  tups := fun b xs q => by
    have z := u.tups b xs q
    rw [upd_ne (ne_of_none z hn)]; exact z
  frzs := fun b ob v q => by
    have z := u.frzs b ob v q
    rw [upd_ne (ne_of_none z hn)]; exact z
  tbls := fun b ps q => by
    obtain ⟨m, z⟩ := u.tbls b ps q
    exact ⟨m, by rw [upd_ne (ne_of_none z hn)]; exact z⟩
end RZ
namespace DL
open L2 PySem PySem.Spec PyProof.Rows
open Evl (Ex ex_l ex_t sz_of)
section
variable {K : PySem.W.Frag} {T : Tb} {S : SA} {E : XK}
end
end DL

/-! the end over a head by facts -/
namespace DL
open L2 PySem PySem.Spec PyProof.Rows
theorem walkGE {l : PySem.W.OpenLaw} {n k : Nat} {q : Program} {loose : List Str} {XP : (Str → Option Value) → Heap → Prop} {YP : PySem.World → Heap → Prop} {d : DefRec} {CX : PySem.World → CXT} {x : Str}
    (hn : l.most = some n) (hn2 : n ≤ sizeLine) (hdf : d.params.defaults = []) (hr : Room k callerA)
    (F : ∀ (w : PySem.World) (mg : Str → Option Value) (fa : Addr) (h : Heap), YP w h → h.Ns mainGlobals mg → mg d.name = some (.ref fa) → ∃ K : PySem.W.Frag, K.In h ∧ LawG l w K (CX w) k n x mg fa h)
    (hX : ∀ (w : PySem.World) (H : Hp) (s : Shared) (e : Value) (s' : Shared), CX w [] H s (fun _ _ _ => False) e s' → False) :
    PySem.W.WalkO q loose XP YP l.row.toRowW d [] (fun f vs => PySem.call f vs) :=
  Att.attach_callB hn hdf fun w s₀ s₁ mg mb fa o pm cd doc a vs ns G Y ho hd hcd hmg hobj hints hlen hbits hg => by
    obtain ⟨K, KX, cs, fd, sp, ⟨h1, h2, h3⟩, hF, hb, hsp⟩ := F w mg fa _ Y G.T.g hmg
    exact end_call KX G.T.g G.T.b G.T.builtins G.T.nolimit hg h1 h3 h2 G.T.bmain hobj hints (Nat.le_trans hlen hn2) hr hF hb (fun H hH hS => hsp H a ns hlen hbits hH hS) fun H e s' => hX w H s₁ e s'

/-! ### facts as Bools -/
open He (ga ma fAd cT)
def eqB (a b : Option Bool) : Bool := match a, b with
  | some x, some y => x == y
  | _, _ => false
theorem eqB_ok {a : Option Bool} {b : Bool} (h : eqB a (some b) = true) : a = some b := by
  cases a with
  | none => cases h
  | some x =>
    have e : (x == b) = true := h
    rw [eq_of_beq e]
def tys6 : List String := ["int", "bool", "str", "tuple", "list", "dict"]
def tys7 : List String := ["NoneType", "bool", "int", "str", "list", "tuple", "dict"]
def noTyB (K : PySem.W.Frag) (C : Addr) : Bool := tys6.all fun t => eqB (PySem.W.kitOne K (.ref C) (.type t)) (some false)
theorem noTyB_ok {K : PySem.W.Frag} {C : Addr} (h : noTyB K C = true) : NoTy K C := fun t ht => eqB_ok (List.all_eq_true.mp h t ht)
def excCB (K : PySem.W.Frag) (D : Addr) : Bool :=
  He.eqO (PySem.W.findIn K (.ref D) "__getattribute__") (some (some (.builtin "BaseException.__getattribute__"))) && (He.eqO (PySem.W.findIn K (.ref D) "__getattr__") (some none) && (eqB (PySem.W.subIn K (.ref D) (.type "BaseException")) (some true) && (PySem.W.hasDictIn K D &&
  (He.eqO (PySem.W.findIn K (.ref D) "__class__") (some (some (.builtin "object.__class__"))) && (He.eqO (PySem.W.specialIn K (.builtin "object.__class__") "__get__") (some (some (.builtin "getset_descriptor.__get__"))) && (eqB (PySem.W.takesIn K (.builtin "object.__class__")) (some true) && eqB (PySem.W.mroIn K D (.type "object")) (some true)))))))
theorem b2 {a b : Bool} (h : (a && b) = true) : a = true ∧ b = true := Bool.and_eq_true_iff.mp h
theorem excCB_ok {K : PySem.W.Frag} {D : Addr} (h : excCB K D = true) : ExcC K D := by
  obtain ⟨h1, h⟩ := b2 h
  obtain ⟨h2, h⟩ := b2 h
  obtain ⟨h3, h⟩ := b2 h
  obtain ⟨h4, h⟩ := b2 h
  obtain ⟨h5, h⟩ := b2 h
  obtain ⟨h6, h⟩ := b2 h
  obtain ⟨h7, h8⟩ := b2 h
  exact ⟨He.eqO_ok h1, He.eqO_ok h2, eqB_ok h3, h4, He.eqO_ok h5, He.eqO_ok h6, eqB_ok h7, eqB_ok h8⟩
def errCB (K : PySem.W.Frag) (CS C : Addr) : Bool := excCB K C && (noTyB K C && eqB (PySem.W.exmOne K (.ref C) (.ref CS)) (some true))
theorem errCB_ok {K : PySem.W.Frag} {CS C : Addr} (h : errCB K CS C = true) : ErrC K CS C := by
  obtain ⟨h1, h⟩ := b2 h
  obtain ⟨h2, h3⟩ := b2 h
  exact ⟨excCB_ok h1, noTyB_ok h2, eqB_ok h3⟩
def eqV (a : Option Value) (b : Value) : Bool := He.eqO (some a) (some (some b))
theorem eqV_ok {a : Option Value} {b : Value} (h : eqV a b = true) : a = some b := Option.some.inj (He.eqO_ok h)
def veB : List Value := [.type "ValueError", .type "Exception", .type "BaseException", .type "object"]
structure ErrF (K : PySem.W.Frag) (CS C : Addr) : Prop where
  x : PySem.W.excIn K C veB "ValueError.__new__" = true
  e : PySem.W.keepIn K (.ref C) = true
  b : PySem.W.subIn K (.ref C) (.type "BaseException") = some true
  t : PySem.W.typeIn K (.ref C) = some (.type "type")
  r : ErrC K CS C
  i : PySem.W.kitOne K (.ref C) (.ref C) = some true
  v : PySem.W.kitOne K (.ref C) (.type "ValueError") = some true
def errFB (K : PySem.W.Frag) (CS C : Addr) : Bool := PySem.W.excIn K C veB "ValueError.__new__" && (PySem.W.keepIn K (.ref C) && (eqB (PySem.W.subIn K (.ref C) (.type "BaseException")) (some true) && (eqV (PySem.W.typeIn K (.ref C)) (.type "type") && (errCB K CS C && (eqB (PySem.W.kitOne K (.ref C) (.ref C)) (some true) && eqB (PySem.W.kitOne K (.ref C) (.type "ValueError")) (some true))))))
theorem errFB_ok {K : PySem.W.Frag} {CS C : Addr} (h : errFB K CS C = true) : ErrF K CS C := by
  obtain ⟨h1, h⟩ := b2 h
  obtain ⟨h2, h⟩ := b2 h
  obtain ⟨h3, h⟩ := b2 h
  obtain ⟨h4, h⟩ := b2 h
  obtain ⟨h5, h⟩ := b2 h
  obtain ⟨h6, h7⟩ := b2 h
  exact ⟨h1, h2, eqB_ok h3, eqV_ok h4, errCB_ok h5, eqB_ok h6, eqB_ok h7⟩
def clsB (K : PySem.W.Frag) (C : Addr) : Bool := PySem.W.plainGet K C Str.empty && (PySem.W.hasDictIn K C && (PySem.W.plainOver K C && He.eqO (PySem.W.findIn K (.ref C) "__setattr__") (some (some (.builtin "object.__setattr__")))))
theorem clsB_ok {K : PySem.W.Frag} {C : Addr} (h : clsB K C = true) : Cls K C := by
  obtain ⟨h1, h⟩ := b2 h
  obtain ⟨h2, h⟩ := b2 h
  obtain ⟨h3, h4⟩ := b2 h
  exact ⟨h1, h2, h3, He.eqO_ok h4⟩
def inCB (K : PySem.W.Frag) (C : Addr) : Bool := clsB K C && (He.eqO (PySem.W.findIn K (.ref C) "__class__") (some (some (.builtin "object.__class__"))) && (He.eqO (PySem.W.specialIn K (.builtin "object.__class__") "__get__") (some (some (.builtin "getset_descriptor.__get__"))) &&
  (eqB (PySem.W.takesIn K (.builtin "object.__class__")) (some true) && (eqB (PySem.W.mroIn K C (.type "object")) (some true) && noTyB K C))))
theorem inCB_ok {K : PySem.W.Frag} {C : Addr} (h : inCB K C = true) : InC K C := by
  obtain ⟨h1, h⟩ := b2 h
  obtain ⟨h2, h⟩ := b2 h
  obtain ⟨h3, h⟩ := b2 h
  obtain ⟨h4, h⟩ := b2 h
  obtain ⟨h5, h6⟩ := b2 h
  exact ⟨clsB_ok h1, He.eqO_ok h2, He.eqO_ok h3, eqB_ok h4, eqB_ok h5, noTyB_ok h6⟩
structure ClsF (K : PySem.W.Frag) (C : Addr) (as : List Str) : Prop where
  ic : InC K C
  no : ∀ t ∈ tys7, PySem.W.kitOne K (.type t) (.ref C) = some false
  i : PySem.W.kitOne K (.ref C) (.ref C) = some true
  na : ∀ a ∈ as, NoAttr K C a
def clsFB (K : PySem.W.Frag) (C : Addr) (as : List Str) : Bool := inCB K C && ((tys7.all fun t => eqB (PySem.W.kitOne K (.type t) (.ref C)) (some false)) && (eqB (PySem.W.kitOne K (.ref C) (.ref C)) (some true) && as.all fun a => He.eqO (PySem.W.findIn K (.ref C) a) (some none)))
theorem clsFB_ok {K : PySem.W.Frag} {C : Addr} {as : List Str} (h : clsFB K C as = true) : ClsF K C as := by
  obtain ⟨h1, h⟩ := b2 h
  obtain ⟨h2, h⟩ := b2 h
  obtain ⟨h3, h4⟩ := b2 h
  exact ⟨inCB_ok h1, fun t ht => eqB_ok (List.all_eq_true.mp h2 t ht), eqB_ok h3, fun a ha => He.eqO_ok (List.all_eq_true.mp h4 a ha)⟩
def mkB (K : PySem.W.Frag) (C : Addr) : Bool := PySem.W.makesIn K C && (He.eqO (PySem.W.findIn K (.ref C) "__init__") (some (some (.ref (ma K C "__init__")))) && (PySem.W.isFn K (.ref (ma K C "__init__")) && PySem.W.keepIn K (.ref C)))
theorem mkB_ok {K : PySem.W.Frag} {C : Addr} (h : mkB K C = true) : Mk K C (ma K C "__init__") := by
  obtain ⟨h1, h⟩ := b2 h
  obtain ⟨h2, h⟩ := b2 h
  obtain ⟨h3, h4⟩ := b2 h
  exact ⟨h1, He.eqO_ok h2, h3, h4⟩
section
variable {K : PySem.W.Frag} {mg : Str → Option Value}
/-- a def whose code object has a table -/
theorem funC_of {p : He.Defn} {x qual : Str} {st : Stmt} {fd : FuncData} {kws : List (Str × V)} (F : L2.FunD K x qual (defArgs st) (defBody st) (defScope st) [] kws (fAd K p) fd) : FunC K x qual st (fAd K p) fd (cT K p).1 := by
  obtain ⟨oc, od, dV, kV, doc, pm, an, cdv, ct, osl, e, l, c, hd, _⟩ := F.ex
  rcases hd with ⟨_, e2⟩ | ⟨e2, _⟩
  · subst e2
    obtain ⟨c', rfl⟩ := He.codeIn_ref c
    have z : He.codeOf K p = c' := He.codeOf_eq l (by rw [e])
    have z2 : (cT K p).1 = c' := z
    rw [z2]
    exact ⟨oc, od, kV, doc, pm, an, ct, osl, e, l, c⟩
  · exact absurd rfl e2
theorem init2_of {qual : Str} {C : Addr} {st : Stmt} {a b : Str} {fd : FuncData} (F : L2.Fun K "__init__" qual st (ma K C "__init__") fd) (m : Mk K C (ma K C "__init__")) (hb : Binds K fd ["self", a, b] [])
    (hk : ∀ (s : Shared) (us ws : List Value), us.length = 1 → ws.length = 2 → BindsTo s fd ⟨us, [b, a].zip ws⟩ ((["self", a, b] : List Str).zip (gsw us ws))) : Init2 K qual C st a b :=
  ⟨_, fd, F, m, hb, ⟨fun s us ws _ h1 h2 => hk s us ws h1 h2, fun h g => gsw_rel h g⟩⟩
end
end DL
namespace DL
open L2 PySem PySem.Spec PyProof.Rows
open He (ga ma fAd cT)
def TTof (K : PySem.W.Frag) (tfs : List (He.Defn × Str)) : Tb := tfs.map fun p => ((cT K p.1).2, p.2)
def apartB (K : PySem.W.Frag) (tfs : List (He.Defn × Str)) : Bool := tfs.all fun p => tfs.all fun q => !(decide ((cT K p.1).2 = (cT K q.1).2)) || decide (p.2 = q.2)
theorem makesAt_of {K : PySem.W.Frag} {base : Heap} {mg : Str → Option Value} {tfs : List (He.Defn × Str)} (hn : apartB K tfs = true) (TB : ∀ p ∈ tfs.map (fun p => cT K p.1), LamX.TabB base mg p.1 p.2) {p : He.Defn × Str} (hp : p ∈ tfs) : MakesAt base mg (TTof K tfs) p.2 (cT K p.1).1 :=
  ⟨⟨(cT K p.1).2, TB _ (List.mem_map.mpr ⟨p, hp, rfl⟩), List.mem_map.mpr ⟨p, hp, rfl⟩, fun q hq e => by
    obtain ⟨r, hr, rfl⟩ := List.mem_map.mp hq
    have h1 := List.all_eq_true.mp (List.all_eq_true.mp hn r hr) p hp
    have e' : (cT K r.1).2 = (cT K p.1).2 := e
    simpa [e'] using h1⟩⟩
theorem tabs_of {K : PySem.W.Frag} {H : Hp} {tfs : List (He.Defn × Str)} (hH : ∀ p ∈ tfs.map (fun p => cT K p.1), H p.2 = some (.tbl #[])) : LamX.Tabs (TTof K tfs) H := fun q hq => by
  obtain ⟨r, hr, rfl⟩ := List.mem_map.mp hq
  exact LamX.TabS.nil (hH _ (List.mem_map.mpr ⟨r, hr, rfl⟩))
end DL

/-! lists of one's own: frozen, looked at, popped; while; stores of new lists -/
namespace DL
open L2 PySem PySem.Spec PyProof.Rows
open Evl (Ex ex_l ex_t sz_of)
section
variable {K : PySem.W.Frag} {T : Tb} {S : SA} {E : XK} {Hb H Hb1 H1 Hb2 H2 : Hp} {n n1 n2 : Nat} {te : TE} {FE : DT}
theorem upd_id {H : Hp} {p : Addr} {o : HO} (h : H p = some o) : upd H p o = H := by
  funext b
  by_cases hb : b = p
  · rw [hb, upd_same, h]
  · rw [upd_ne hb]
theorem frz_st {p : Addr} {vs : List V} (h3 : p ≠ S.a) (h4 : p ≠ S.l) (h5 : p ≠ S.c) (h : StOk K S Hb H n) : StOk K S (upd Hb p (.lst vs)) H n := by
  obtain ⟨g1, g2, ls, cs, m, t, g3, g4, g5, g6, g7, g8, rest⟩ := h
  exact ⟨by rw [upd_ne h3.symm]; exact g1, by rw [upd_ne h4.symm]; exact g2, ls, cs, m, t, g3, g4, g5, g6, g7, by rw [upd_ne h5.symm]; exact g8, rest⟩
theorem frz_slots {ρ : List SV} {σ : L2.St} {i : Nat} {p : Addr} {vs : List V} {xs : List D} (sl : Slots K S Hb H n ρ σ) (ei : ρ[i]? = some (.ol xs)) (es : σ[i]? = some (some (.ref p))) (h1 : H p = some (.lst vs)) (h2 : Hb p = none) (h3 : p ≠ S.a) (h4 : p ≠ S.l) (h5 : p ≠ S.c) (h6 : DnA K Hb vs xs) :
    Slots K S (upd Hb p (.lst vs)) H n (ρ.set i (.d (.lst xs))) σ where
  len := by rw [List.length_set]; exact sl.len
  ok := fun j s e => by
    have ex := Ex.new (o := .lst vs) h2
    by_cases hj : i = j
    · subst hj
      have hl : i < ρ.length := (List.getElem?_eq_some_iff.mp ei).1
      rw [List.getElem?_set_self hl] at e
      cases e
      exact ⟨_, es, .ref p, rfl, .lst (SqL.of upd_same) (h6.up ex)⟩
    · rw [List.getElem?_set_ne hj] at e
      obtain ⟨o, e1, e2⟩ := sl.ok j s e
      refine ⟨o, e1, ?_⟩
      cases s with
      | no => trivial
      | d x =>
        obtain ⟨v, e3, e4⟩ := e2
        exact ⟨v, e3, e4.up ex⟩
      | st => exact ⟨e2.1, frz_st h3 h4 h5 e2.2⟩
      | ol zs =>
        obtain ⟨q, ws, e3, e4, e5, e6, e7, e9, e8⟩ := e2
        have hqp : q ≠ p := fun z => by
          subst z
          exact sl.ap i j q xs zs hj ei e es (by rw [e1, e3])
        exact ⟨q, ws, e3, e4, by rw [upd_ne hqp]; exact e5, e6, e7, e9, e8.up ex⟩
      | me y C ms es2 =>
        obtain ⟨e3, dx, fs, e4, e5, e6, e7, e8, e9, e10⟩ := e2
        exact ⟨e3, dx, fs, e4, by rw [upd_ne (fun z => by rw [z, h1] at e4; cases e4)]; exact e5, e6, e7, e8, e9, e10.up ex⟩
      | od ks es2 =>
        obtain ⟨q, kvs, e3, e4, e5, e6, e7, e8, e9, e10⟩ := e2
        exact ⟨q, kvs, e3, e4, by rw [upd_ne (fun z => by rw [z, h1] at e4; cases e4)]; exact e5, e6, e7, e8, e9, e10.up ex⟩
      | ot ks es2 =>
        obtain ⟨q, kvs, e3, e4, e5, e6, e7, e8, e9, e10⟩ := e2
        exact ⟨q, kvs, e3, e4, by rw [upd_ne (fun z => by rw [z, h1] at e4; cases e4)]; exact e5, e6, e7, e8, e9, e10.up ex⟩
      | fv F =>
        obtain ⟨f, c, e3, e4, e5, e5b, rest⟩ := e2
        have hc : c ≠ p := fun z => by
          rw [z, h1] at e5
          exact codeO_no (o := .lst vs) (fun _ z => by cases z) (Option.some.inj e5)
        exact ⟨f, c, e3, ex _ _ e4, e5, (fun o z => by rw [upd_ne hc] at z; exact e5b o z), rest⟩
  ap := fun j k q ys zs hjk ej ek sj sk => by
    have f : ∀ {m : Nat} {u : List D}, (ρ.set i (.d (.lst xs)))[m]? = some (.ol u) → ρ[m]? = some (.ol u) := fun {m u} e => by
      by_cases hm : i = m
      · subst hm
        have hl : i < ρ.length := (List.getElem?_eq_some_iff.mp ei).1
        rw [List.getElem?_set_self hl] at e
        cases e
      · rw [List.getElem?_set_ne hm] at e
        exact e
    exact sl.ap j k q ys zs hjk (f ej) (f ek) sj sk
/-- from here on the list in slot i is frozen -/
def xsFrz (i : Nat) (G : DTS) : DTS := fun DD ρ n XP => slotO ρ i fun xs => G DD (ρ.set i (.d (.lst xs))) n XP
theorem rds_frz {i : Nat} {t : TS} {G : DTS} (h1 : RdS K T S E t G) : RdS K T S E t (xsFrz i G) := fun σ ρ Hb0 H0 n0 Hb H n DD XP D a sl h q x => by
  obtain ⟨xs, p, vs, e, es, e3, e4, e5, e6, e8, e7, h⟩ := sl.sl.own h
  have f0 : Fresh H0 p := sl.fr i _ p e rfl es
  have a' := a.freeze (o := .lst vs) f0 e4 (by rw [e3]; exact fun z => by cases z) (fun ps z => by rw [e3] at z; cases z) (fun c u z => by rw [e3] at z; exact codeO_no (o := .lst vs) (fun _ z => by cases z) (Option.some.inj z)) e5 e6 e8
  rw [upd_id e3] at a'
  refine h1 σ _ Hb0 H0 n0 _ H n DD XP D a' ⟨frz_slots sl.sl e es e3 e4 e5 e6 e8 e7, fun j s r ej eo sj => ?_⟩ h (q.up (Ex.new e4)) x
  by_cases hj : i = j
  · subst hj
    have hl : i < ρ.length := (List.getElem?_eq_some_iff.mp e).1
    rw [List.getElem?_set_self hl] at ej
    cases ej
    cases eo
  · rw [List.getElem?_set_ne hj] at ej
    exact sl.fr j s r ej eo sj
theorem Dn.flat {v : V} {d : D} (h : Dn K Hb v d) (f : flatD d = true) : Dn K Hb1 v d := by
  cases h with
  | non => exact .non
  | bl b => exact .bl b
  | int i => exact .int i
  | str x => exact .str x
  | _ => cases f
/-! ### while -/
/-! ### new lists -/
def xnNil : DTL := fun _ n P _ => P [] n
theorem rdn_nil : RdN K T S E (tLst tNil) xnNil := fun σ ρ Hb H n P XP Q w sl h q x => by
  refine ⟨Nat.zero_le _, fun a hp => ?_⟩
  exact q [] a [] n Hb (upd H a (.lst [])) (.newO w hp) (fresh_none hp) upd_same (free_of w.ex hp) .nil h
def xnLst (G : DTA) : DTL := fun ρ n P XP => G ρ n (fun ss n1 => ∃ ds, allD ss = some ds ∧ ds.length ≤ 100000 ∧ P ds n1) XP
theorem rdn_lst {ta : TA} {G : DTA} (h1 : RdA K T S E ta G) : RdN K T S E (tLst ta) (xnLst G) := fun σ ρ Hb H n P XP Q w sl h q x =>
  h1 σ ρ Hb H n _ XP _ w sl h (fun ss vs n1 Hb1 H1 s ha p => by
    obtain ⟨ds, e, hl, p⟩ := p
    have hd := ha.allD e
    refine ⟨sz_of (by rw [hd.len]; exact hl), fun a hp => ?_⟩
    exact q ds a vs n1 Hb1 _ (s.trans (.newO s.wd hp)) (s.dm a (fresh_none hp)) upd_same (free_of s.wd.ex hp) hd p) x
def xnList (F : DT) : DTL := fun ρ n P XP => F ρ n (fun d n1 => seqD d fun xs => P xs n1) XP
theorem rdn_list (h1 : DL.Rd K T S E te FE) : RdN K T S E (tCB (rListU K) (tCons te tNil)) (xnList FE) := fun σ ρ Hb H n P XP Q w sl h q x =>
  h1 σ ρ Hb H n _ XP _ w sl h (fun d v n1 Hb1 H1 s hd p => by
    cases hd with
    | @lst a vs ds g1 g2 => exact ⟨a, vs, rfl, .inl (ex_l s.wd.ex g1), fun l hp => q ds l vs n1 Hb1 _ (s.trans (.newO s.wd hp)) (s.dm l (fresh_none hp)) upd_same (free_of s.wd.ex hp) g2 p⟩
    | @tup a vs ds g1 g2 => exact ⟨a, vs, rfl, .inr (ex_t s.wd.ex g1), fun l hp => q ds l vs n1 Hb1 _ (s.trans (.newO s.wd hp)) (s.dm l (fresh_none hp)) upd_same (free_of s.wd.ex hp) g2 p⟩
    | _ => exact p.elim) x
/-- data, or a new list of one's own -/
def MOk (K : PySem.W.Frag) (H0 Hb H : Hp) : SV → V → Prop
  | .d d, v => Dn K Hb v d
  | .ol xs, v => ∃ p vs, v = .ref p ∧ Fresh H0 p ∧ H p = some (.lst vs) ∧ Hb p = none ∧ DnA K Hb vs xs
  | _, _ => False
theorem MOk.step {H0 : Hp} {s : SV} {v : V} (m : MOk K H0 Hb H s v) (w0 : World T S Hb1 H0) (a : Stp K T S Hb H n Hb2 H2 n2) : MOk K H0 Hb2 H2 s v := by
  cases s with
  | d d => exact Dn.up a.ex m
  | ol xs =>
    obtain ⟨p, vs, rfl, hp, e1, e2, hd⟩ := m
    obtain ⟨m1, m2, m3⟩ := w0.nS hp
    obtain ⟨g1, g2⟩ := a.own p _ e1 e2 m1 m2 (fun ps z => by cases z)
    exact ⟨p, vs, rfl, hp, g1, g2, hd.up a.ex⟩
  | _ => exact m.elim
/-- nobody's list is the new one -/
theorem MOk.apart {Ha : Hp} {ρ : List SV} {σ : L2.St} {Hc : Hp} {m : Nat} {s : SV} {v : V} (sl : Slots K S Hc Ha m ρ σ) (h : MOk K Ha Hb H s v) : ∀ (j : Nat) (ys : List D) (p : Addr), ρ[j]? = some (.ol ys) → σ[j]? = some (some (.ref p)) → v = .ref p → isOwn s = true → False := fun j ys p ej sj ev eo => by
  cases s with
  | d d => cases eo
  | ol xs =>
    obtain ⟨r, vs, rfl, hp, e1, e2, hd⟩ := h
    cases ev
    obtain ⟨o, g1, q, ws, g2, g3, _⟩ := sl.ok j _ ej
    rw [g1, g2] at sj
    have er : q = p := V.ref.inj (Option.some.inj (Option.some.inj sj))
    rw [er] at g3
    exact absurd rfl (hp.ne g3 fun _ z => by cases z)
  | _ => exact h.elim
/-! ### pops -/
theorem DnA.erase : ∀ (m : Nat) {vs : List V} {ds : List D}, DnA K H vs ds → DnA K H (vs.eraseIdx m) (ds.eraseIdx m)
  | _, _, _, .nil => by simp; exact .nil
  | 0, _, _, .cons h1 h2 => by simpa using h2
  | m + 1, _, _, .cons h1 h2 => by simpa using DnA.cons h1 (DnA.erase m h2)
end
end DL

/-! enumerate of a tuple -/
namespace RZ
open PySem PySem.Spec PyProof.Rows L2
open AutoSeq1 (wpAny_loadPart')
set_option maxHeartbeats 1000000 in
theorem meets_enumT (l : Addr) (items : Array Value) (o : Obj) (hc : o.cls = .type "tuple") (hd : ∃ n, o.data = .seq items n) :
    Meets (Builtin.«enumerate.__new__» ⟨[.type "enumerate", .ref l], []⟩) (fun _ R s => s.heap.get? l = some o ∧
      R (.ok (.ret (.ref (s.heap.push { cls := .type "tuple_iterator", data := .fields #[.ref l, .int 0 0] }).objs.size)))
        { s with heap := (s.heap.push { cls := .type "tuple_iterator", data := .fields #[.ref l, .int 0 0] }).push { cls := .type "enumerate", data := .fields #[.none, .bool false, .ref s.heap.objs.size, rawInt 0, .none, .none] } }) :=
  .of_wp fun prog w A R s h => by
    obtain ⟨oc, dct, dt, sl⟩ := o
    obtain ⟨n, hd⟩ := hd
    dsimp only at hc hd
    subst hc hd
    obtain ⟨hp, g, d, tk, os⟩ := s
    obtain ⟨hl, h⟩ := h
    have hsub := sub_enumerate
    have hL : Heap.IsTuple (Shared.heap ⟨hp, g, d, tk, os⟩) l items := ⟨_, hl, rfl, n, rfl⟩
    wp_walk using wpAny_loadPart' hl
    refine wpAny_stack_any fun st => wpAny_pure ?_
    split
    · rename_i c _ _ _ _ _
      cases (c == Value.type "enumerate") <;> (wp_walk using wpAny_loadPart' hl, wpAny_pyIter_tuple hL; exact ⟨_, rfl, h⟩)
    · wp_walk using wpAny_loadPart' hl, wpAny_pyIter_tuple hL
      exact ⟨_, rfl, h⟩
section
variable {prog : Program} {w : World} {A : Around} {E : Value → Shared → Prop} {s : Shared}
theorem call_enumT {l : Addr} {items : Array Value} {Q : Value → Shared → Prop} (hL : s.heap.IsTuple l items)
    (h : ∀ h', IsEnum h' (s.heap.objs.size + 1) s.heap.objs.size 0 .none → h'.IsTupleIter s.heap.objs.size l 0 → h'.objs.size = s.heap.objs.size + 2 →
      (∀ b o, s.heap.get? b = some o → h'.get? b = some o) → Q (.ref (s.heap.objs.size + 1)) { s with heap := h' }) :
    wpAny (model prog w) A (call (.type "enumerate") [.ref l]) Q E s := by
  obtain ⟨o, hl, hc, hd⟩ := hL
  refine callType_new F.called_enumerate (by decide) (F.typeCall_enumerate_1 _) (F.newCall_enumerate_1 _) (fun obj => F.args_object_init_2 obj _) F.entry_enumerate_new
    (meets_enumT l items o hc hd) ⟨hl, ?_⟩
  have hz : (s.heap.push { cls := .type "tuple_iterator", data := .fields #[.ref l, .int 0 0] }).objs.size = s.heap.objs.size + 1 := Heap.size_push ..
  show _ ∧ _
  rw [hz]
  have he : IsEnum ((s.heap.push { cls := .type "tuple_iterator", data := .fields #[.ref l, .int 0 0] }).push
      { cls := .type "enumerate", data := .fields #[.none, .bool false, .ref s.heap.objs.size, rawInt 0, .none, .none] }) (s.heap.objs.size + 1) s.heap.objs.size 0 .none := by
    have z := Heap.get?_push_size (s.heap.push { cls := .type "tuple_iterator", data := .fields #[.ref l, .int 0 0] })
      (o := { cls := .type "enumerate", data := .fields #[.none, .bool false, .ref s.heap.objs.size, rawInt 0, .none, .none] }) rfl
    rw [hz] at z
    exact z
  exact ⟨⟨_, he, rfl⟩, h _ he ⟨_, Heap.get?_push_of_some _ (Heap.get?_push_size _ rfl), rfl, rfl⟩ (by rw [Heap.size_push, hz]) fun b o x => Heap.get?_push_of_some _ (Heap.get?_push_of_some _ x)⟩
end
/-- the tuple at a, each item in a new pair -/
def IteT (K : PySem.W.Frag) (a : Addr) : It :=
  ⟨fun i H => ∃ (xs : List V) (x : V), SqT K H a xs ∧ xs[i]? = some x, fun i H v H' => ∃ T x, v = .ref T ∧ H T = none ∧ H' = upd H T (.tup [.int (i : Nat), x]) ∧ ∀ xs, SqT K H a xs → xs[i]? = some x, fun i H => ∃ xs : List V, SqT K H a xs ∧ xs.length ≤ i⟩
theorem turn_enumT {P : Program} {w : World} {K : PySem.W.Frag} {elts : List Expr} {kk : Nat} {tpos : Pos} (a e it : Addr) :
    Turn P w K (.Tuple elts kk tpos) (IteT K a) [e, it] e (fun i h => (∃ old, IsEnum h e it ((i : Nat) : Int) old) ∧ h.IsTupleIter it a i ∧ e ≠ it ∧ e ≠ a ∧ a ≠ it) where
  mem := by simp
  obj := fun i h st b hb => by
    obtain ⟨⟨old, he⟩, ⟨o, ho, hc, hd⟩, _⟩ := st
    rcases List.mem_cons.mp hb with z | hb
    · rw [z]; exact ⟨_, he, fun v q => nomatch q⟩
    · rw [List.mem_singleton.mp hb]; exact ⟨o, ho, fun v q => by rw [hd] at q; cases q⟩
  keep := fun i h h' st k => let ⟨⟨old, he⟩, hi, hne⟩ := st; ⟨⟨old, k e (by simp) _ he⟩, hi.at fun o q => k it (by simp) o q, hne⟩
  item := by
    intro X hP hw hK hc i pins s σ H E I hf st hg
    subst hP hw hK
    obtain ⟨⟨old, he⟩, hit, hne, hea, hai⟩ := st
    obtain ⟨xs, x, hq, hx⟩ := hg
    obtain ⟨its, rv, p, hz⟩ := I.tuple hq
    obtain ⟨u, hu, ru⟩ := rv.get hx
    have hu' : its.toArray[i]? = some u := by simpa using hu
    have hel : e < s.heap.objs.size := Heap.lt_size he
    have hil : it < s.heap.objs.size := by obtain ⟨_, q, _⟩ := hit; exact Heap.lt_size q
    have hlt : i < its.toArray.size := (Array.getElem?_eq_some_iff.mp hu').1
    have hd : X.A.in1.handled = none := I.ok.hd hc
    refine wpAny_pyNext_enum_itemC (A := X.A) (Draws.tuple (prog := X.prog) (w := X.w) (A := X.A.in1) hd it a hai its.toArray) he ⟨hit, p⟩ hlt hne (by simp [hne, hea]) fun u' h' tk hP ho hit' hT hsz hk => ?_
    have eu : u' = u := by
      have z : its.toArray[i]? = some u' := hP
      rw [hu'] at z
      exact (Option.some.inj z).symm
    subst eu
    refine ⟨_, rfl, wpAny_letOwnedTupleGo_enum (s := { s with heap := h', toks := tk + 1 }) ho fun h'' he' sb => ?_⟩
    have hT2 : h''.get? s.heap.objs.size = some { cls := .type "tuple", data := .seq #[.int i tk, u'] } := (sb.2 _ (Nat.ne_of_gt hel)).trans hT
    have new : ObjOk X.prog X.w (upd H s.heap.objs.size (.tup [.int (i : Nat), x])) h'' s.heap.objs.size (.tup [.int (i : Nat), x]) :=
      ⟨by show 2 ≤ sizeLine; decide, [.int i tk, u'], .cons ⟨_, rfl⟩ (.cons ru .nil), ⟨_, hT2, rfl, _, rfl⟩⟩
    have I1 : Inv X pins σ (upd H s.heap.objs.size (.tup [.int (i : Nat), x])) { s with heap := h'', toks := tk + 1 } :=
      I.turnedNew (ch := [e, it]) (fun b ob hb q => (sb.2 b (fun z => hb (by simp [z]))).trans (hk b ob (fun z => hb (by simp [z])) (fun z => hb (by simp [z])) q)) hf (Nat.le_refl _) new
    refine ⟨.ref s.heap.objs.size, _, I1, rfl, ⟨_, x, rfl, I.hok.fresh (Nat.le_refl _), rfl, fun ys hy => by rw [I.tuple_inj hy hq]; exact hx⟩, ⟨⟨u', ?_⟩, hit'.1.at fun o q => (sb.2 it (Ne.symm hne)).trans q, hne, hea, hai⟩, fun b hb => ?_⟩
    · have e1 : ((i + 1 : Nat) : Int) = (i : Int) + 1 := by omega
      rw [e1]; exact he'
    · have hb' : b < s.heap.objs.size := by
        rcases List.mem_cons.mp hb with z | hb
        · rw [z]; exact hel
        · rw [List.mem_singleton.mp hb]; exact hil
      rw [upd_ne (Nat.ne_of_lt hb')]
      exact (hf b hb).1
  done := by
    intro X hP hw hK hc i pins s σ H E I hf st hg
    subst hP hw hK
    obtain ⟨⟨old, he⟩, hit, hne, hea, hai⟩ := st
    obtain ⟨xs, hq, hx⟩ := hg
    obtain ⟨its, rv, p, hz⟩ := I.tuple hq
    obtain ⟨f0, f1, f2, f3, f4, f5⟩ := hf it (by simp)
    have hl := rv.length
    have hT : s.TypeIs (.ref e) "enumerate" := ⟨_, he, rfl⟩
    have hd : X.A.handled = none := I.ok.hd hc
    unfold pyNext
    refine wpAny_bind (wpAny_attempt (wpAny_callSpecial?_slot (name := Str.ofString "__next__") hT F.slot_enumerate_next
      (wpAny_call_entry F.slot_enumerate_next hT F.entry_enumerate_next ?_ (F.args_enumerate_next_1 _))))
    show wpAny _ _ (field (.ref e) 2 >>= _) _ _ _
    refine wpAny_bind (wpAny_field he rfl (x := .ref it) rfl ?_)
    show wpAny _ _ (Builtin.SmallTypes.nextOf (.ref it) >>= _) _ _ _
    refine wpAny_bind (nextOf_tuple_end hd hit p (by simp; omega) fun h' ee hs he2 => ?_)
    obtain ⟨o, ho, hcl⟩ := he2
    refine wpAny_bind (wpAny_isInstance (T := "StopIteration") (b := true) ⟨o, ho, hcl⟩ isSubtype_stop ?_)
    exact wpAny_pure ⟨rfl, I.turned (t' := s.toks) (fun b o hb q => hs b o hb q) f0 f1 f3 f4 f5⟩
  self := fun A i s Q E st h => let ⟨⟨_, he⟩, _⟩ := st; wpAny_pyIter_enum he h
def iEnumA (K : PySem.W.Frag) (ta : TA) : TI := fun σ H R => ta σ H fun vs H1 => ∃ a xs, vs = [.ref a] ∧ ((SqL K H1 a xs ∧ R (Ite K a) H1) ∨ (SqT K H1 a xs ∧ R (IteT K a) H1))
theorem pi_enumA {X : Cx} {e : Expr} {ta : TA} {p pos tpos : Pos} {elts : List Expr} {kk : Nat} (hg : Gl X "enumerate") (hm : X.mg "enumerate" = none) (ha : PA X [e] ta) (hs : starEach [e] X.env = [(false, eval e X.env)] := by rfl) :
    PI X (.Tuple elts kk tpos) (.Call (.Name "enumerate" p) [e] [] pos) (iEnumA X.K ta) := by
  refine ⟨fun pins s σ H R I h => ?_⟩
  refine Call_ (ld_blt I hg hm boot_enumerate (PyProof.Rows.callWith_type1 (thn (ha.run pos pins s σ H _ I h) fun us s1 ⟨vs, H1, I1, r1, q1⟩ => ?_) hs rfl))
  obtain ⟨a, xs, ex, q1⟩ := q1
  subst ex
  cases r1 with
  | cons r rr =>
    cases rr
    cases r
    have fp : ∀ b ∈ [s1.heap.objs.size + 1, s1.heap.objs.size], FpOk X pins H1 b := fun b hb => by
      have hle : s1.heap.objs.size ≤ b := by
        rcases List.mem_cons.mp hb with z | hb
        · rw [z]; exact Nat.le_add_right _ _
        · rw [List.mem_singleton.mp hb]; exact Nat.le_refl _
      exact I1.fpOk hle (I1.hok.fresh hle)
    rcases q1 with ⟨hq, q⟩ | ⟨hq, q⟩
    · obtain ⟨its, rv, p', hz⟩ := I1.list hq
      refine call_enumerate_list p'.isList fun h' he hit hsz hk => wpAny_pyIter_enum he ?_
      have I2 : Inv X pins σ H1 { s1 with heap := h' } := I1.kept (t' := s1.toks) hk
      exact ⟨s1.heap.objs.size + 1, [s1.heap.objs.size + 1, s1.heap.objs.size], _, _, H1, rfl, I2, turn_enum a (s1.heap.objs.size + 1) s1.heap.objs.size, ⟨⟨.none, he⟩, hit, Nat.succ_ne_self _⟩, fp, q⟩
    · obtain ⟨its, rv, p', hz⟩ := I1.tuple hq
      obtain ⟨o, ho, _⟩ := id p'
      have hal : a < s1.heap.objs.size := Heap.lt_size ho
      refine call_enumT (show s1.heap.IsTuple a its.toArray from p') fun h' he hit hsz hk => wpAny_pyIter_enum he ?_
      have I2 : Inv X pins σ H1 { s1 with heap := h' } := I1.kept (t' := s1.toks) hk
      exact ⟨s1.heap.objs.size + 1, [s1.heap.objs.size + 1, s1.heap.objs.size], _, _, H1, rfl, I2, turn_enumT a (s1.heap.objs.size + 1) s1.heap.objs.size, ⟨⟨.none, he⟩, hit, Nat.succ_ne_self _, Nat.ne_of_gt (Nat.lt_succ_of_lt hal), Nat.ne_of_lt hal⟩, fp, q⟩
end RZ
namespace DL
open L2 PySem PySem.Spec PyProof.Rows
open Evl (Ex ex_l ex_t sz_of)
section
variable {K : PySem.W.Frag} {T : Tb} {S : SA} {E : XK} {Hb H Hb1 H1 : Hp} {n n1 : Nat} {te : TE} {FE : DT}
def enumD (k : Nat) : List D → List D
  | [] => []
  | x :: xs => .tup [.int (k : Nat), x] :: enumD (k + 1) xs
theorem enumD_len : ∀ {xs : List D} {k : Nat}, (enumD k xs).length = xs.length
  | [], _ => rfl
  | _ :: xs, k => by
    show (enumD (k + 1) xs).length + 1 = _
    rw [enumD_len] <;> rfl
theorem enumD_get : ∀ {xs : List D} {k i : Nat}, (enumD k xs)[i]? = (xs[i]?).map fun x => D.tup [.int ((k + i : Nat) : Int), x]
  | [], _, _ => by simp [enumD]
  | x :: xs, k, 0 => by simp [enumD]
  | x :: xs, k, i + 1 => by
    show (enumD (k + 1) xs)[i]? = _
    rw [enumD_get]
    have e : k + 1 + i = k + (i + 1) := by omega
    rw [e]
    rfl
theorem src_enumL {a : Addr} {xs : List V} {ds : List D} (h : SqL K Hb a xs) (hd : DnA K Hb xs ds) : SrcOk K (Ite K a) Hb (enumD 0 ds) := fun Hb1 H1 i e1 e2 => by
  have h1 := ex_l e2 (ex_l e1 h)
  refine ⟨fun hi => ⟨xs, h1, by rw [enumD_len] at hi; rw [hd.len]; exact hi⟩, fun d e => ?_⟩
  rw [enumD_get] at e
  obtain ⟨x, ex, rfl⟩ := Option.map_eq_some_iff.mp e
  obtain ⟨v, ev, hv⟩ := hd.get ex
  refine ⟨⟨xs, v, h1, ev⟩, fun z H' q => ?_⟩
  obtain ⟨p, x', rfl, hp, rfl, f1⟩ := q
  have z1 := f1 xs h1
  rw [ev] at z1
  cases z1
  have ex := Ex.new (o := .tup [.int (i : Nat), v]) (free_of e2 hp)
  refine .inr ⟨p, _, hp, rfl, (fun _ z => by cases z), .tup (SqT.of upd_same) (.cons ?_ (.cons ((hv.up e1).up ex) .nil))⟩
  rw [Nat.zero_add]
  exact .int _
theorem src_enumT {a : Addr} {xs : List V} {ds : List D} (h : SqT K Hb a xs) (hd : DnA K Hb xs ds) : SrcOk K (RZ.IteT K a) Hb (enumD 0 ds) := fun Hb1 H1 i e1 e2 => by
  have h1 := ex_t e2 (ex_t e1 h)
  refine ⟨fun hi => ⟨xs, h1, by rw [enumD_len] at hi; rw [hd.len]; exact hi⟩, fun d e => ?_⟩
  rw [enumD_get] at e
  obtain ⟨x, ex, rfl⟩ := Option.map_eq_some_iff.mp e
  obtain ⟨v, ev, hv⟩ := hd.get ex
  refine ⟨⟨xs, v, h1, ev⟩, fun z H' q => ?_⟩
  obtain ⟨p, x', rfl, hp, rfl, f1⟩ := q
  have z1 := f1 xs h1
  rw [ev] at z1
  cases z1
  have ex := Ex.new (o := .tup [.int (i : Nat), v]) (free_of e2 hp)
  refine .inr ⟨p, _, hp, rfl, (fun _ z => by cases z), .tup (SqT.of upd_same) (.cons ?_ (.cons ((hv.up e1).up ex) .nil))⟩
  rw [Nat.zero_add]
  exact .int _
def xiEnum (G : DTA) : DTI := fun ρ n P XP => G ρ n (fun ss n1 => match ss with
  | [.d (.lst xs)] => P (enumD 0 xs) n1
  | [.d (.tup xs)] => P (enumD 0 xs) n1
  | _ => False) XP
theorem rdi_enum {ta : TA} {GA : DTA} (h1 : RdA K T S E ta GA) : RdI K T S E (RZ.iEnumA K ta) (xiEnum GA) := fun σ ρ Hb H n P XP R w sl h q x =>
  h1 σ ρ Hb H n _ XP _ w sl h (fun ss vs n1 Hb1 H1 s ha p => by
    match ss, ha, p with
    | [.d (.lst xs)], ha, p =>
      obtain ⟨v, rfl, hv⟩ := Args.one (ss := []) ha
      cases hv with
      | @lst a as ds g1 g2 => exact ⟨a, as, rfl, .inl ⟨ex_l s.wd.ex g1, q _ n1 Hb1 H1 _ s (src_enumL g1 g2) p⟩⟩
    | [.d (.tup xs)], ha, p =>
      obtain ⟨v, rfl, hv⟩ := Args.one (ss := []) ha
      cases hv with
      | @tup a as ds g1 g2 => exact ⟨a, as, rfl, .inr ⟨ex_t s.wd.ex g1, q _ n1 Hb1 H1 _ s (src_enumT g1 g2) p⟩⟩) x

/-! ### three targets -/
def xgThree (i j k : Nat) : DTG := fun d ρ P => match d with
  | .tup [a, b, c] => P (((ρ.set i (.d a)).set j (.d b)).set k (.d c))
  | _ => False
theorem rdg_three {i j k : Nat} {vs : List Nat} (h : i ∈ vs) (h' : j ∈ vs) (h'' : k ∈ vs) : RdG K T S vs (gTup K 3 (gCons (gName i) (gCons (gName j) (gCons (gName k) gNil)))) (xgThree i j k) := fun v d σ ρ H0 Hb H n P Q w sl hd p q => by
  cases hd with
  | @tup a xs ds h1 h2 =>
    cases h2 with
    | nil => exact p.elim
    | @cons v1 vs1 d1 ds1 g1 r1 =>
      cases r1 with
      | nil => exact p.elim
      | @cons v2 vs2 d2 ds2 g2 r2 =>
        cases r2 with
        | nil => exact p.elim
        | @cons v3 vs3 d3 ds3 g3 r3 =>
          cases r3 with
          | cons _ _ => exact p.elim
          | nil => exact ⟨a, [v1, v2, v3], rfl, ex_t w.ex h1, rfl, v1, [v2, v3], rfl, v2, [v3], rfl, v3, [], rfl, rfl, q _ _ (((sl.set g1).set g2).set g3) (by rw [wipe_set h'', wipe_set h', wipe_set h]) p⟩
  | _ => exact p.elim
end
end DL

/-! dicts of one's own -/
namespace DL
open L2 PySem PySem.Spec PyProof.Rows
open Evl (Ex ex_l ex_t sz_of)
def isOd : SV → Bool
  | .od _ _ => true
  | .ot _ _ => true
  | _ => false
def noOd : List SV → Bool
  | [] => true
  | s :: ss => !isOd s && noOd ss
theorem noOd_get : ∀ {ρ : List SV} {i : Nat} {s : SV}, noOd ρ = true → ρ[i]? = some s → isOd s = false
  | [], i, s, _, e => by simp at e
  | t :: ss, 0, s, h, e => by
    simp at e
    subst e
    have z : (!isOd t && noOd ss) = true := h
    cases h1 : isOd t with
    | false => rfl
    | true => rw [h1] at z; cases z
  | t :: ss, i + 1, s, h, e => by
    have z : (!isOd t && noOd ss) = true := h
    exact noOd_get (ρ := ss) (i := i) (Bool.and_eq_true_iff.mp z).2 (by simpa using e)
section
variable {K : PySem.W.Frag} {T : Tb} {S : SA} {E : XK} {Hb H Hb1 H1 : Hp} {n n1 : Nat} {te : TE} {FE : DT}
/-- what is one's own is rewritten -/
theorem Stp.put {p : Addr} {o u : HO} (s : Stp K T S Hb H n Hb1 H1 n1) (hp : Fresh H p) (h2 : Hb1 p = none) (h1 : H1 p = some o) (nt : ∀ ps, o ≠ .tbl ps) (nx : ∀ φ, o ≠ .ext φ) (nu : ∀ ps, u ≠ .tbl ps) (na : p ≠ S.a) (nl : p ≠ S.l) : Stp K T S Hb H n Hb1 (upd H1 p u) n1 := by
  refine ⟨s.ex, s.wd.put h1 h2 nt nx nu, fun h0 => ?_, fun b v e1 e2 e3 e4 e5 => ?_, fun b e => s.dm b (dm_upd nu b e)⟩
  · obtain ⟨g1, g2, ls, cs, m, t, g3, g4, g5, g6, g7, g8, rest⟩ := s.st h0
    exact ⟨g1, g2, ls, cs, m, t, g3, g4, g5, by rw [upd_ne na.symm]; exact g6, by rw [upd_ne nl.symm]; exact g7, g8, rest⟩
  · rw [upd_ne (hp.ne e1 e5)]
    exact s.own0 b v e1 e2 e3 e4 e5
def slotE (ρ : List SV) (i : Nat) (k : List Key → List D → Prop) : Prop := match ρ[i]? with
  | some (.od ks ds) => k ks ds
  | _ => False
theorem slotE_zero {ks : List Key} {ds : List D} {ρ : List SV} {k : List Key → List D → Prop} : slotE (.od ks ds :: ρ) 0 k = k ks ds := rfl
theorem slotE_succ {s : SV} {ρ : List SV} {i : Nat} {k : List Key → List D → Prop} : slotE (s :: ρ) (i + 1) k = slotE ρ i k := rfl
theorem set_set {α : Type} {ρ : List α} {i : Nat} {a b : α} : (ρ.set i a).set i b = ρ.set i b := List.set_set ..
end
end DL

/-! exceptions with one attribute: raised, asked -/
namespace DL
open L2 PySem PySem.Spec PyProof.Rows
open Evl (Ex ex_l ex_t sz_of)
section
variable {P : Program} {w : PySem.World} {K : PySem.W.Frag} {T : Tb} {mg : Str → Option Value} {base : Heap}
end
section
variable {K : PySem.W.Frag} {T : Tb} {S : SA} {E : XK} {Hb H Hb1 H1 : Hp} {n n1 : Nat} {te : TE} {FE : DT}
end
end DL

/-! lambdas of one value that are handed on and called; functions as data -/
namespace DL
open L2 PySem PySem.Spec PyProof.Rows
open Evl (Ex ex_l ex_t sz_of)
/-! ### the call of such a lambda -/
def LamOk (P : Program) (w : PySem.World) (K : PySem.W.Frag) (mg : Str → Option Value) (base : Heap) (k : Nat) (F : FV) (sp : Sp) : Prop :=
  ∀ (A : Around) (outer : List Env) (s : Shared) (H : Hp) (f c : Addr) (v : V) (u : Value) (Q : VK) (E : XK), Room k A → H f = some (LamV F c f) → H c = some (LamX.CodeO c F.q) → sp [v] H Q E → L2.RelV v u → Env0 P w K mg base A outer s H →
    codeAny (model P w) A (.call (.ref f) ⟨[u], []⟩) (CR (L2.CX P w) outer P w H s Q E) s
section
variable {P : Program} {w : PySem.World} {K : PySem.W.Frag} {T : Tb} {mg : Str → Option Value} {base : Heap} {k : Nat} {F : FV} {sp : Sp}
theorem lamV_fun {P : Program} {w : PySem.World} {H : Hp} {h : Heap} {f c : Addr} (ok : HOk P w H h) (e : H f = some (LamV F c f)) : ∃ pm ctv, h.get? f = some (PySem.W.kla_obj "<lambda>" F.q F.ps F.body F.scope [] pm c ctv) := by
  obtain ⟨z, _, _⟩ := ok f _ e
  exact z
theorem lamOk_of {N : List Str} {x : Str} (Sc : FnScope N [x] F.scope) (hbind : ∀ (pm cv ctv : Value) (u : Value), bindArgs (PySem.W.kla_fn "<lambda>" F.q F.ps F.body F.scope [] pm cv ctv) ⟨[u], []⟩ = pure [(x, u)])
    (hbody : ∀ (c : Addr) (A : Around) (outer : List Env) (s : Shared) (H : Hp) (f : Addr) (v : V) (Q : VK) (E : XK), Room k (A.deeper (envOfC F.q F.scope s.heap.objs.size f (.ref c))) → sp [v] H Q E →
      ∃ t, PE (cxOf (L2.CX P w) P w K mg base N F.q F.scope f (.ref c) A outer s H E) F.body t ∧ t (L2.start N [v]) H Q) : LamOk P w K mg base (k + 1) F sp := by
  intro A outer s H f c v u Q E hr hf hc hsp rv e0
  obtain ⟨pm, ctv, hget⟩ := lamV_fun e0.hok hf
  obtain ⟨⟨oc, vs, t, hoc, hd, hv⟩, _, _⟩ := e0.hok c _ hc
  have lim : s.heap.NoLimit := e0.mod.nolimit.keeps fun b o e => (e0.bs b o e).1
  have hkind : ∀ y ∈ ([x] : List Str).zip [u], F.scope.names.lookup y.1 = some .local ∨ (F.scope.names.lookup y.1 = some .cell ∧ ((cellsFrom (s.heap.objs.size + 1) F.scope.names []).lookup y.1).isSome = true) := fun ⟨n, v⟩ hy => by
    rcases Sc.par n (List.of_mem_zip hy).1 with q | q
    · exact .inl q
    · exact .inr ⟨q, PySem.W.cellsFrom_some _ _ _ (.inl q)⟩
  refine PySem.W.kla_callFunE hr.depth hget rfl Sc.co Sc.gen rfl ⟨c, oc, vs, t, rfl, hoc, hd, hv⟩ ?_
  rw [hbind]
  refine wpAny_pure ?_
  refine wpAny_newFunctionEnv_cells Sc.kind hkind fun env he s1 y => ?_
  subst he
  refine ⟨lim.keeps y.toInCall.keep, ?_⟩
  obtain ⟨t', ht, hq⟩ := hbody c A outer s H f v Q E (hr.deeper _) hsp
  have r1 : Vals [v] [u] := .cons rv .nil
  have I : Inv (cxOf (L2.CX P w) P w K mg base N F.q F.scope f (.ref c) A outer s H E) [] (L2.start N [v]) H s1 := inv_start (us := [u]) Sc hr.hd e0 rfl r1 y
  refine PySem.W.kla_codeExpr (wpAny_mono (ht.run [] s1 (L2.start N [v]) H Q I hq) (fun v' s' hs => ?_) fun e s' hs => hs)
  obtain ⟨x', H', J, rx, q⟩ := hs
  exact ⟨x', H', J.os, J.bare, J.base, J.hok, rx, q⟩
/-- its promise on data -/
def LamOkD (P : Program) (w : PySem.World) (K : PySem.W.Frag) (mg : Str → Option Value) (base : Heap) (T : Tb) (k : Nat) (F : FV) (G : D → Nat → DQ → DX → Prop) : Prop := LamOk P w K mg base k F (spOf K T fun ss n P XP => ∃ d, ss = [.d d] ∧ G d n P XP)
theorem lamOkD_of {N : List Str} {x : Str} {G : D → Nat → DQ → DX → Prop} (Sc : FnScope N [x] F.scope) (hbind : ∀ (pm cv ctv : Value) (u : Value), bindArgs (PySem.W.kla_fn "<lambda>" F.q F.ps F.body F.scope [] pm cv ctv) ⟨[u], []⟩ = pure [(x, u)])
    (hb : ∀ (S : SA) (c : Addr) (A : Around) (outer : List Env) (s : Shared) (H : Hp) (f : Addr) (E : XK), Room k (A.deeper (envOfC F.q F.scope s.heap.objs.size f (.ref c))) →
      ∃ te G', PE (cxOf (L2.CX P w) P w K mg base N F.q F.scope f (.ref c) A outer s H E) F.body te ∧ DL.Rd K T S E te G' ∧ ∀ d n P XP, G d n P XP → G' (startS N [.d d]) n P XP) : LamOkD P w K mg base T (k + 1) F G := by
  refine lamOk_of Sc hbind fun c A outer s H f v Q E hr h => ?_
  obtain ⟨S, Hb, n, ss, P', XP, wd, ha, ⟨d, rfl, hd⟩, q, x⟩ := h
  obtain ⟨te, G', h1, h2, h3⟩ := hb S c A outer s H f E hr
  exact ⟨te, h1, h2 _ _ Hb H n P' XP Q wd (.start ha rfl) (h3 d n P' XP hd) q x⟩
end
section
variable {X : Cx} {k i : Nat} {x : Str} {p pos : Pos} {e : Expr} {ta : TA} {E : XK}
/-- x(e), x a name that holds such a lambda -/
def tCallV (P : Program) (w : PySem.World) (K : PySem.W.Frag) (mg : Str → Option Value) (base : Heap) (k i : Nat) (t : TA) (E : XK) : TE := fun σ H Q => ∃ (f c : Addr) (F : FV) (sp : Sp), σ[i]? = some (some (.ref f)) ∧ H f = some (LamV F c f) ∧ LamOk P w K mg base k F sp ∧
  t σ H fun vs H1 => H1 f = some (LamV F c f) ∧ H1 c = some (LamX.CodeO c F.q) ∧ ∃ v, vs = [v] ∧ sp [v] H1 Q E
theorem pe_callV (hr : Room k X.A) (hN : X.N[i]? = some x) (hv : Vis X.env.scope x) (hx : Passes (L2.CX X.prog X.w) X E) (ha : PA X [e] ta) (hdb : (x == ("__debug__" : Str)) = false := by decide) (hcd : (x == ("__classdict__" : Str)) = false := by decide)
    (he : starEach [e] X.env = (false, eval e X.env) :: starEach [] X.env := by rfl) (hpl : (backTo pos (starEach ([] : List Expr) X.env)).any (·.1) = false := by rfl) :
    PE X (.Call (.Name x p) [e] [] pos) (tCallV X.prog X.w X.K X.mg X.base k i ta E) := by
  refine ⟨fun pins s σ H Q I h => ?_⟩
  obtain ⟨f, c, F, sp, hs, hf, ok, h⟩ := h
  refine wpAny_Call_Name_kw (thn ((pe_var (pos := p) (i := i) hN hv hdb hcd).run pins s σ H (fun v H1 => v = .ref f ∧ H1 = H) I ⟨.ref f, hs, rfl, rfl⟩) fun u s1 ⟨v, H1, I1, r1, q1⟩ => ?_)
  obtain ⟨rfl, rfl⟩ := q1
  obtain rfl : u = Value.ref f := r1
  obtain ⟨pm, ctv, hget⟩ := lamV_fun I1.hok hf
  refine PySem.W.callWith_F ⟨_, _, _, _, hget⟩ ?_ he hpl
  refine thn (ha.run pos pins s1 σ _ _ I1 h) fun us s2 ⟨vs, H2, I2, r2, hf2, hc2, v, ev, hsp⟩ => ?_
  subst ev
  obtain ⟨pm2, ctv2, hget2⟩ := lamV_fun I2.hok hf2
  refine ⟨⟨_, _, _, _, hget2⟩, ?_⟩
  cases r2 with
  | cons ru rr =>
    cases rr
    refine wpAny_call (codeAny_mono (ok X.A X.stack s2 H2 f c v _ Q E hr hf2 hc2 hsp ru I2.env0) fun r s' hq => ?_)
    cases r with
    | error e => exact hx pins σ H2 s2 e s' I2 hq
    | ok fl =>
      cases fl with
      | ret u => exact I2.after hq
      | next => exact False.elim hq
      | brk => exact False.elim hq
      | cont => exact False.elim hq
/-! ### its making -/
def tLamV (T : Tb) (F : FV) : TE := fun σ H Q => LamX.Tabs T H ∧ ∀ (f c : Addr) (H1 : Hp), LamX.ExtN H H1 → LamX.Tabs T H1 → H1 f = none → H1 c = some (LamX.CodeO c F.q) → Q (.ref f) (upd H1 f (LamV F c f))
theorem lamV_ok {P : Program} {w : PySem.World} {H : Hp} {h : Heap} {F : FV} {f c : Addr} {pm ctv : Value} (e : h.get? f = some (PySem.W.kla_obj "<lambda>" F.q F.ps F.body F.scope [] pm c ctv)) : ObjOk P w H h f (LamV F c f) :=
  ⟨⟨pm, ctv, e⟩, ⟨_, e⟩, fun h1 h2 ⟨pm, ctv, z⟩ st => ⟨pm, ctv, st _ z⟩⟩
theorem lamV_tbl {F : FV} {f c : Addr} (ps : Array Value) : LamV F c f ≠ .tbl ps := fun z => by
  unfold LamV at z
  cases z
theorem pe_lamV {T : Tb} {c : Addr} {params : Arguments} {body : Expr} {scope : Scope} (M : MakesAt X.base X.mg T (X.env.qual ++ "<lambda>") c) (hcode : X.env.code = .ref c) (hdef : defaultsOf params X.env = ([], [])) (hclo : ∀ cells, L2.cloFrom cells scope.names [] = [])
    (hfree : ∀ y ∈ scope.names, y.2 = .free → ∃ c, X.env.cells.lookup y.1 = some c) : PE X (.Lambda params body scope pos) (tLamV T ⟨X.env.qual ++ "<lambda>", params, body, scope⟩) := by
  refine ⟨fun pins s σ H Q I h => ?_⟩
  obtain ⟨hT, h⟩ := h
  obtain ⟨P, TB, hm, hu⟩ := M.ex
  obtain ⟨ps, hP, ht, ha⟩ := hT _ hm
  refine PySem.W.kla_eval hdef ?_
  have bP : s.heap.BuiltinsAt X.mg P := TB.bm.keeps I.bk
  have hP' : s.heap.get? P = some { cls := .none, data := .fields ps } := I.hok P _ hP
  cases hc : codeAmong pos ps.toList with
  | none =>
    refine PySem.W.kla_makeFunction (mg := X.mg) (c := c) (P := P) (ps := ps) (closure_ok hfree) I.ok.glob (I.mod.glob.keeps I.bk) hcode (TB.code.keeps I.bk) hP' ht hc TB.gP bP fun c' ctv h' tk hx hge hlt hrec htb => ?_
    rw [hclo]
    obtain ⟨c2, oc, vs, t, e2, hoc, hd, hv⟩ := hrec
    cases e2
    have nC : H c' = none := I.hok.fresh hge
    have hsz : s.heap.objs.size ≤ h'.objs.size := Nat.le_trans hge (Nat.le_of_lt hlt)
    have I1 := LamX.inv_table (t' := tk) (more := #[rawInt pos.line, rawInt pos.col, .ref c']) (h' := h') I hP (fun b o hb e => hx b o hb e) htb hge ⟨oc, vs, t, hoc, hd, hv⟩
    have hE : LamX.ExtN H (upd (upd H P (.tbl (ps ++ #[rawInt pos.line, rawInt pos.col, .ref c']))) c' (LamX.CodeO c' (X.env.qual ++ "<lambda>"))) := fun b o e n => by
      rw [upd_ne (ne_of_none e nC), upd_ne (fun z => n ps (Option.some.inj (e.symm.trans (by rw [z]; exact hP))))]
      exact e
    have eL : (ps ++ #[rawInt pos.line, rawInt pos.col, .ref c']).toList = ps.toList ++ [rawInt pos.line, rawInt pos.col, .ref c'] := by simp
    have T1 : LamX.Tabs T (upd (upd H P (.tbl (ps ++ #[rawInt pos.line, rawInt pos.col, .ref c']))) c' (LamX.CodeO c' (X.env.qual ++ "<lambda>"))) := fun p hp => by
      by_cases hb : p.1 = P
      · rw [hu p hp hb, hb]
        refine ⟨_, by rw [upd_ne (ne_of_none hP nC), upd_same], by rw [eL]; exact PySem.TriplesOk_snoc _ _ _ _ ht, fun p' cv hcv => ?_⟩
        rw [eL] at hcv
        rcases LamX.among_app _ ht hcv with z | z
        · obtain ⟨c0, e1, e2⟩ := ha p' cv z
          exact ⟨c0, e1, hE _ _ e2 LamX.codeO_ne⟩
        · exact ⟨c', z, upd_same⟩
      · obtain ⟨ps', a1, a2, a3⟩ := hT p hp
        refine ⟨ps', by rw [upd_ne (ne_of_none a1 nC), upd_ne hb]; exact a1, a2, fun p' cv hcv => ?_⟩
        obtain ⟨c0, e1, e2⟩ := a3 p' cv hcv
        exact ⟨c0, e1, hE _ _ e2 LamX.codeO_ne⟩
    have n1 : h'.objs.size ≠ c' := Nat.ne_of_gt hlt
    have n2 : h'.objs.size ≠ P := Nat.ne_of_gt (Nat.lt_of_lt_of_le (Heap.lt_size hP') hsz)
    have hfn : upd (upd H P (.tbl (ps ++ #[rawInt pos.line, rawInt pos.col, .ref c']))) c' (LamX.CodeO c' (X.env.qual ++ "<lambda>")) h'.objs.size = none := by
      rw [upd_ne n1, upd_ne n2]
      exact I.hok.fresh hsz
    have I2 := I1.laid (t' := tk) (h' := h'.push (PySem.W.kla_obj "<lambda>" (X.env.qual ++ "<lambda>") params body scope [] ((X.mg "__name__").getD .none) c' ctv)) (fun b o e => Heap.get?_push_of_some _ e) (Nat.le_refl _) (lamV_ok (F := ⟨X.env.qual ++ "<lambda>", params, body, scope⟩) (Heap.get?_push_size _ rfl))
    exact ⟨.ref h'.objs.size, _, I2, rfl, h h'.objs.size c' _ hE T1 hfn upd_same⟩
  | some cv =>
    obtain ⟨c', e, hco⟩ := ha pos cv hc
    subst e
    refine PySem.W.kla_makeFunctionHit (mg := X.mg) (c := c) (P := P) (ps := ps) (closure_ok hfree) I.ok.glob (I.mod.glob.keeps I.bk) hcode (TB.code.keeps I.bk) hP' ht hc bP fun ctv h' tk hx hsz => ?_
    rw [hclo]
    have I1 : Inv X pins σ H { s with heap := h', toks := tk } := I.kept fun b o e => hx b o e
    have hfn : H h'.objs.size = none := I.hok.fresh hsz
    have I2 := I1.laid (t' := tk) (h' := h'.push (PySem.W.kla_obj "<lambda>" (X.env.qual ++ "<lambda>") params body scope [] ((X.mg "__name__").getD .none) c' ctv)) (fun b o e => Heap.get?_push_of_some _ e) (Nat.le_refl _) (lamV_ok (F := ⟨X.env.qual ++ "<lambda>", params, body, scope⟩) (Heap.get?_push_size _ rfl))
    exact ⟨.ref h'.objs.size, _, I2, rfl, h h'.objs.size c' H (LamX.ExtN.refl H) hT hfn hco⟩
end
end DL

/-! function values on data; keywords -/
namespace DL
open L2 PySem PySem.Spec PyProof.Rows
open Evl (Ex ex_l ex_t sz_of)
section
variable {P : Program} {w : PySem.World} {mg : Str → Option Value} {base : Heap} {K : PySem.W.Frag} {T : Tb} {S : SA} {E : XK} {Hb H Hb1 H1 : Hp} {n n1 k : Nat} {te : TE} {FE : DT} {ta : TA} {GA : DTA}
abbrev LamP := FV → (D → Nat → DQ → DX → Prop) → Prop
/-- an argument that is a lambda: its promise is its own reading -/
def xaLam (LD : LamP) (j : Nat) (G : D → Nat → DQ → DX → Prop) (GA : DTA) : DTA := fun ρ n P XP => ρ[j]? = some .st ∧ ∀ F, LD F G → GA ρ n (fun ss n2 => P (.fv F :: ss) n2) XP
theorem rda_lamV {F : FV} {j : Nat} {LD : LamP} {G : D → Nat → DQ → DX → Prop} (ok : LD F G) (h2 : RdA K T S E ta GA) : RdA K T S E (tCons (tLamV T F) ta) (xaLam LD j G GA) := fun σ ρ Hb H n P XP Q wd sl h q x => by
  obtain ⟨ej, h⟩ := h
  refine ⟨wd.tabs, fun f c H1 eN T1 hf hc => ?_⟩
  have s0 : Stp K T S Hb H n Hb H1 n := .lam wd eN T1
  have sl0 := sl.step s0
  obtain ⟨o, e1, e2, st⟩ := sl0.ok j _ ej
  obtain ⟨g1, g2, ls, cs, m, t, g3, g4, g5, g6, g7, g8, rest⟩ := st
  have s1 : Stp K T S Hb H1 n (upd Hb f (LamV F c f)) (upd H1 f (LamV F c f)) n := .new s0.wd hf lamV_tbl
  have hcf : c ≠ f := fun z => by rw [z, hf] at hc; cases hc
  have nca : c ≠ S.a := fun z => by
    rw [z, g6] at hc
    exact codeO_no (o := .dK _) (fun _ z => by cases z) (Option.some.inj hc)
  have ncl : c ≠ S.l := fun z => by
    rw [z, g7] at hc
    exact codeO_no (o := .lst _) (fun _ z => by cases z) (Option.some.inj hc)
  have sO : SlotOk K S (upd Hb f (LamV F c f)) (upd H1 f (LamV F c f)) n (.fv F) (some (.ref f)) := ⟨f, c, rfl, upd_same, by rw [upd_ne hcf]; exact hc, fun o z => by
    rw [upd_ne hcf] at z
    have y := s0.wd.ex _ _ z
    rw [hc] at y
    exact (Option.some.inj y).symm, nca, ncl⟩
  exact h2 σ ρ _ _ n _ XP _ s1.wd (sl0.step s1) (h F ok) (fun ss vs n2 Hb2 H2 s2 ha p2 => q _ _ n2 Hb2 H2 ((s0.trans s1).trans s2) (.cons (s := .fv F) (sO.step s2) ha) p2) ((x.step s0).step s1)
/-- x(e), x a name that holds such a lambda -/
def xCallV (LD : LamP) (i : Nat) (FE : DT) : DT := fun ρ n P XP => ∃ F G, ρ[i]? = some (.fv F) ∧ LD F G ∧ FE ρ n (fun d n1 => G d n1 P XP) XP
theorem rd_callV {i : Nat} (h1 : DL.Rd K T S E te FE) : DL.Rd K T S E (tCallV P w K mg base k i (tCons te tNil) E) (xCallV (LamOkD P w K mg base T k) i FE) := fun σ ρ Hb H n P' XP Q wd sl h q x => by
  obtain ⟨F, G, ei, ok, h⟩ := h
  obtain ⟨o, e1, f, c, e2, hf, hc, hb, na, nl⟩ := sl.ok i _ ei
  refine ⟨f, c, F, _, by rw [e1, e2], wd.ex _ _ hf, ok, ?_⟩
  refine h1 σ ρ Hb H n _ XP _ wd sl h (fun d v n1 Hb1 H1 s hd p => ?_) x
  obtain ⟨o', e1', f', c', e2', hf', hc', _⟩ := (sl.step s).ok i _ ei
  rw [e1] at e1'
  cases e1'
  rw [e2] at e2'
  cases e2'
  have ec : H1 c = some (LamX.CodeO c F.q) := by
    obtain ⟨f2, c2, y1, y2, y3, y4, y5, y6⟩ := SlotOk.step s (s := .fv F) (o := o) ⟨f, c, e2, hf, hc, hb, na, nl⟩
    rw [e2] at y1
    cases y1
    have hfb := s.ex _ _ hf
    cases hcb : Hb c with
    | none => exact (s.own0 c _ hc hcb na nl (fun ps z => by unfold LamX.CodeO at z; cases z)).1
    | some oo =>
      have z := hb oo hcb
      subst z
      exact s.wd.ex _ _ (s.ex _ _ hcb)
  exact ⟨s.wd.ex _ _ (s.ex _ _ hf), ec, v, rfl, S, Hb1, n1, [.d d], P', XP, s.wd, .cons ⟨v, rfl, hd⟩ .nil, ⟨d, rfl, p⟩, q.step s, x.step s⟩
/-! ### functions as data -/
theorem rd_fnv {f : Addr} : DL.Rd K T S E (tC (.ref f)) (xC (.fnv f)) := fun σ ρ Hb H n P XP Q w sl h q _ => q.now w (.fnv f) h
def tCallE (P : Program) (w : PySem.World) (K : PySem.W.Frag) (mg : Str → Option Value) (base : Heap) (k : Nat) (tf : TE) (t : TA) : TE := fun σ H Q => tf σ H fun x H1 => ∃ f sp, x = .ref f ∧ Held P w K mg base k f sp ∧ t σ H1 fun vs H2 => sp vs H2 Q (fun _ _ _ => False)
theorem pe_callE {X : Cx} {fe e : Expr} {tf : TE} {pos : Pos} (hf : PE X fe tf) (hr : Room k X.A) (ha : PA X [e] ta)
    (hev : eval (.Call fe [e] [] pos) X.env = (do
      let f ← eval fe X.env
      callWith pos f [] (backTo pos (starEach [e] X.env)) (backToKw pos (keywordEach [] X.env))) := by rfl)
    (he : starEach [e] X.env = (false, eval e X.env) :: starEach [] X.env := by rfl) (hpl : (backTo pos (starEach ([] : List Expr) X.env)).any (·.1) = false := by rfl) : PE X (.Call fe [e] [] pos) (tCallE X.prog X.w X.K X.mg X.base k tf ta) := by
  refine ⟨fun pins s σ H Q I h => ?_⟩
  rw [hev]
  refine wpAny_bind (thn (hf.run pins s σ H _ I h) fun u s1 ⟨x, H1, I1, r1, f, sp, ex, hd, q⟩ => ?_)
  subst ex
  obtain rfl : u = Value.ref f := r1
  obtain ⟨fd, ps, F, hk, hb⟩ := hd.ex
  refine PySem.W.callWith_K (h₀ := X.base) I1.ok.mod.kin hk (thn (ha.run pos pins s1 σ _ _ I1 q) fun us s2 ⟨vs, H2, I2, r, q2⟩ => ⟨I2.kIn, ?_⟩) he hpl
  exact run_fn (dvs := []) F hr hb .nil (fun _ _ _ _ _ _ _ z => z.elim) I2 r (by rw [List.append_nil]; exact q2)
abbrev HldP := Addr → DSp0 → Prop
def HeldD (P : Program) (w : PySem.World) (K : PySem.W.Frag) (mg : Str → Option Value) (base : Heap) (T : Tb) (k : Nat) : HldP := fun f DS => Held P w K mg base k f (sp0 K T DS)
def xCallE (HD : HldP) (FF : DT) (GA : DTA) : DT := fun ρ n P XP => FF ρ n (fun d n1 => match d with
  | .fnv f => ∃ DS, HD f DS ∧ GA ρ n1 (fun ss n2 => noOl ss = true ∧ DS ss n2 P) XP
  | _ => False) XP
theorem rd_callE {tf : TE} {FF : DT} (h1 : DL.Rd K T S E tf FF) (h2 : RdA K T S E ta GA) : DL.Rd K T S E (tCallE P w K mg base k tf ta) (xCallE (HeldD P w K mg base T k) FF GA) := fun σ ρ Hb H n P' XP Q wd sl h q x =>
  h1 σ ρ Hb H n _ XP _ wd sl h (fun d v n1 Hb1 H1 s hd p => by
    cases hd with
    | fnv f =>
      obtain ⟨DS, hD, p⟩ := p
      refine ⟨f, _, rfl, hD, ?_⟩
      exact h2 σ ρ Hb1 H1 n1 _ XP _ s.wd (sl.step s) p (fun ss vs n2 Hb2 H2 s2 ha p2 => ⟨S, Hb2, n2, ss, P', xF, s2.wd, ha, p2, (q.step s).step s2, .none⟩) (x.step s)
    | _ => exact p.elim) x

/-! ### keywords -/
def gpI {α : Type} : List Nat → List α → List α
  | [], _ => []
  | i :: is, ws => match ws[i]? with
    | some w => w :: gpI is ws
    | none => gpI is ws
def gp {α : Type} (ix : List Nat) (us ws : List α) : List α := us ++ gpI ix ws
theorem vals_get {zs : List V} {ws : List Value} (h : Vals zs ws) : ∀ i : Nat, (∃ z w, zs[i]? = some z ∧ ws[i]? = some w ∧ L2.RelV z w) ∨ (zs[i]? = none ∧ ws[i]? = none) := by
  induction h with
  | nil => intro i; right; simp
  | @cons z w zs ws r _ ih =>
    intro i
    cases i with
    | zero => exact .inl ⟨z, w, rfl, rfl, r⟩
    | succ i => simpa using ih i
theorem gpI_rel {zs : List V} {ws : List Value} (h : Vals zs ws) : ∀ ix : List Nat, Vals (gpI ix zs) (gpI ix ws)
  | [] => .nil
  | i :: ix => by
    unfold gpI
    rcases vals_get h i with ⟨z, w, e1, e2, r⟩ | ⟨e1, e2⟩
    · rw [e1, e2]
      exact .cons r (gpI_rel h ix)
    · rw [e1, e2]
      exact gpI_rel h ix
theorem gp_rel {ix : List Nat} {vs : List V} {us : List Value} {zs : List V} {ws : List Value} (h : Vals vs us) (g : Vals zs ws) : Vals (gp ix vs zs) (gp ix us ws) := h.append (gpI_rel g ix)
theorem Args.getI {ss : List SV} {vs : List V} (h : Args K S Hb H n ss vs) : ∀ i : Nat, (∃ s v, ss[i]? = some s ∧ vs[i]? = some v ∧ SlotOk K S Hb H n s (some v)) ∨ (ss[i]? = none ∧ vs[i]? = none) := by
  induction h with
  | nil => intro i; right; simp
  | @cons s v ss vs r _ ih =>
    intro i
    cases i with
    | zero => exact .inl ⟨s, v, rfl, rfl, r⟩
    | succ i => simpa using ih i
theorem Args.gpI {ss : List SV} {vs : List V} (h : Args K S Hb H n ss vs) : ∀ ix : List Nat, Args K S Hb H n (DL.gpI ix ss) (DL.gpI ix vs)
  | [] => .nil
  | i :: ix => by
    unfold DL.gpI
    rcases h.getI i with ⟨z, w, e1, e2, r⟩ | ⟨e1, e2⟩
    · rw [e1, e2]
      exact .cons r (Args.gpI h ix)
    · rw [e1, e2]
      exact Args.gpI h ix
theorem Args.append {ss ts : List SV} {vs us : List V} (h : Args K S Hb H n ss vs) (g : Args K S Hb H n ts us) : Args K S Hb H n (ss ++ ts) (vs ++ us) := by
  induction h with
  | nil => exact g
  | cons r _ ih => exact .cons r ih
def xCallKw (D0 : DSp) (a b : Nat) (ix : List Nat) (G Gk : DTA) : DT := fun ρ n P XP => G ρ n (fun ss n1 => Gk ρ n1 (fun ts n2 => ss.length = a ∧ ts.length = b ∧ D0 (gp ix ss ts) n2 P XP) XP) XP
def dsX (DS : DSp) : DSp := fun ss n P XP => noOl ss = true ∧ DS ss n P XP
def ds0 (DS : DSp0) : DSp := fun ss n P _ => noOl ss = true ∧ DS ss n P
/-- where it does not raise -/
theorem rd_callKwN {D0 : DSp} {ix : List Nat} {a b : Nat} {tk : TA} {G Gk : DTA} {E' : XK} (h1 : RdA K T S E ta G) (h2 : RdA K T S E tk Gk) :
    DL.Rd K T S E (tCallN a b (spOf K T D0) (gp ix) E0 ta tk) (xCallKw (fun ss n P _ => D0 ss n P xF) a b ix G Gk) := fun σ ρ Hb H n P XP Q wd sl h q x =>
  h1 σ ρ Hb H n _ XP _ wd sl h (fun ss vs n1 Hb1 H1 s ha p => h2 σ ρ Hb1 H1 n1 _ XP _ s.wd (sl.step s) p (fun ts us n2 Hb2 H2 s2 hb p2 => by
    obtain ⟨e1, e2, p2⟩ := p2
    exact ⟨by rw [← ha.len]; exact e1, by rw [← hb.len]; exact e2, S, Hb2, n2, gp ix ss ts, P, xF, s2.wd, (ha.step s2).append (hb.gpI ix), p2, (q.step s).step s2, .none⟩) (x.step s)) x
end
section
variable {X : Cx} {CX : CXT} {k : Nat} {f : Addr} {fd : FuncData} {ps ks : List Str} {sp : Sp} {E : XK} {x : Str} {p pos : Pos} {kws : List Keyword} {tk : TA} {g : List Value → List Value → List Value} {gV : List V → List V → List V}
/-- f(k = v, ..) -/
theorem pe_callN0 (F : FnOk X.prog X.w X.K X.mg X.base CX k f fd ps sp) (hr : Room k X.A) (hg : Gl X x) (hm : X.mg x = some (.ref f)) (hk : PySem.W.keepIn X.K (.ref f) = true) (hb : KBn X.K fd ps 0 ks g gV) (hx : Passes CX X E)
    (hkw : PK X kws tk) (hall : (backToKw pos (keywordEach kws X.env)).all (·.1.isSome) = true := by rfl) (hks : (backToKw pos (keywordEach kws X.env)).filterMap (·.1) = ks := by rfl)
    (hdb : (x == ("__debug__" : Str)) = false := by decide)
    (hpl : ((backTo pos (starEach [] X.env)).any (·.1) || (backToKw pos (keywordEach kws X.env)).any (·.1.isNone)) = false := by rfl) :
    PE X (.Call (.Name x p) [] kws pos) (tCallN 0 ks.length sp gV E tNil tk) := by
  refine ⟨fun pins s σ H Q I h => ?_⟩
  refine wpAny_Call_Name_kw (ld_glob I hg hm ?_ hdb)
  refine PySem.W.callWith_KW0 (h₀ := X.base) I.ok.mod.kin hk hall ?_ hpl
  refine thn (hkw.run pos pins s σ H _ I h) fun ws s2 ⟨zs, H2, I2, rz, l1, l2, q2⟩ => ⟨I2.kIn, ?_⟩
  rw [hks]
  exact run_fnN (us := []) (vs := []) F hr hb hx I2 .nil rz rfl l2 q2
end
section
variable {K : PySem.W.Frag} {x qual : Str} {st : Stmt} {f : Addr} {fd : FuncData} {ps ks : List Str} {n : Nat} {ix : List Nat}
theorem kbn_of (F : L2.Fun K x qual st f fd) (h : ∀ (kV doc pm : Value) (an : Option Addr) (cdv ct : Value) (us ws : List Value), us.length = n → ws.length = ks.length → bindArgs (PySem.W.fnOf x qual (defArgs st) (defBody st) (defScope st) .none kV doc pm an cdv ct) ⟨us, ks.zip ws⟩ = pure (ps.zip (gp ix us ws))) : KBn K fd ps n ks (gp ix) (gp ix) := by
  obtain ⟨oc, od, kV, doc, pm, an, cdv, ct, osl, rfl, lk, hcd⟩ := F.ex
  exact ⟨fun s us ws _ h1 h2 => .of_eq (h kV doc pm an cdv ct us ws h1 h2), fun a b => gp_rel a b⟩
/-- a def as it stands, for calls by keywords too -/
def HasF (P : Program) (w : PySem.World) (K : PySem.W.Frag) (mg : Str → Option Value) (base : Heap) (CX : CXT) (k : Nat) (name : Str) (st : Stmt) (ps : List Str) (sp : Sp) : Prop :=
  ∃ f fd, FnOk P w K mg base CX k f fd ps sp ∧ mg name = some (.ref f) ∧ PySem.W.keepIn K (.ref f) = true ∧ Binds K fd ps [] ∧ L2.Fun K name name st f fd
theorem HasF.has {P : Program} {w : PySem.World} {mg : Str → Option Value} {base : Heap} {CX : CXT} {k : Nat} {name : Str} {sp : Sp} (h : HasF P w K mg base CX k name st ps sp) : Has P w K mg base CX k name ps sp := by
  obtain ⟨f, fd, a, b, c, d, _⟩ := h
  exact ⟨f, fd, a, b, c, d⟩
end
end DL

/-! t[::-1] of a tuple; xs != [] whatever the items; sorted of ints -/
namespace HT
open PySem PySem.Spec PyProof.Rows
section
variable {prog : Program} {w : World} {A : Around} {E : Value → Shared → Prop} {s : Shared}
end
end HT
namespace DL
open L2 PySem PySem.Spec PyProof.Rows
open Evl (Ex ex_l ex_t sz_of)
/-! ### t[::-1] -/
section
variable {K : PySem.W.Frag} {T : Tb} {S : SA} {E : XK} {Hb H Hb1 H1 : Hp} {n n1 : Nat} {te : TE} {FE : DT}
/-! ### xs != [] -/
def rNeNil (K : PySem.W.Frag) : R2 := fun x y H Q => ∃ a b xs, x = .ref a ∧ y = .ref b ∧ SqL K H a xs ∧ SqL K H b [] ∧ Q (.bl (!xs.isEmpty)) H
theorem op_neNil {X : Cx} (hu : X.A.units + 64 < cLine) : OpR X (compareOp .NotEq) (rNeNil X.K) := by
  intro pins s σ H x y v u Q I rx ry h
  obtain ⟨a, b, xs, rfl, rfl, ha, hb, q⟩ := h
  cases rx
  cases ry
  obtain ⟨its, r1, p1, _⟩ := I.list ha
  obtain ⟨its2, r2, p2, _⟩ := I.list hb
  have hu0 : X.A.units < cLine := Nat.lt_of_le_of_lt (Nat.le_add_right _ _) hu
  have e2 : its2 = [] := by
    cases r2
    rfl
  subst e2
  cases xs with
  | nil =>
    have e1 : its = [] := by
      cases r1
      rfl
    subst e1
    exact SeqAt.RcNeAt.lists (e := fun _ => true) p1.isList p2.isList rfl hu0 (fun j h1 h2 => by simp at h1) X.prog X.w _ _ ⟨.bl _, H, I, rfl, q⟩
  | cons x xs =>
    have hl := r1.length
    exact SeqAt.RcNeAt.lists_lengths p1.isList p2.isList (by simp; intro z; rw [z] at hl; simp at hl) hu0 X.prog X.w _ _ ⟨.bl _, H, I, rfl, q⟩
def neNilD : D → D → (D → Prop) → Prop := fun a b k => match a, b with
  | .lst xs, .lst [] => k (.bl (!xs.isEmpty))
  | _, _ => False
theorem o2_neNil : Op2 K (rNeNil K) neNilD := by
  intro T S x y a b Hb H n P Q w hx hy h q
  unfold neNilD at h
  split at h
  · cases hx with
    | @lst p vs ds g1 g2 =>
      cases hy with
      | @lst p2 vs2 ds2 g3 g4 =>
        cases g4
        refine ⟨p, p2, vs, rfl, rfl, ex_l w.ex g1, ex_l w.ex g3, q.now w (.bl _) ?_⟩
        cases g2 with
        | nil => exact h
        | cons _ _ => exact h
  · exact h.elim
/-! ### sorted of ints -/
theorem ints_of : ∀ {ns : List Int} {vs : List V}, DnA K H vs (ns.map D.int) → vs = ns.map V.int
  | [], _, h => by cases h; rfl
  | n :: ns, _, h => by
    cases h with
    | cons h1 h2 =>
      cases h1
      rw [ints_of h2]
      rfl
end
end DL

/-! list(range(n)); len(set(t)) of a tuple of ints; t == () of a tuple -/
namespace RZ
open L2 PySem PySem.Spec PyProof.Rows PySem.W Pv
theorem vals_ints : ∀ {ns : List Int} {us : List Value}, Vals (ns.map V.int) us → IntsAre us ns
  | [], _, h => by cases h; exact .nil
  | n :: ns, _, h => by
    cases h with
    | cons r rr =>
      obtain ⟨t, r⟩ := r
      subst r
      exact .cons n t (vals_ints rr)
/-! ### t == () -/
end RZ
namespace DL
open L2 PySem PySem.Spec PyProof.Rows
open Evl (Ex ex_l ex_t sz_of)
section
variable {K : PySem.W.Frag} {T : Tb} {S : SA} {E : XK} {te : TE} {FE : DT}
end
end DL

/-! exceptions with one attribute as a class of the program; lambdas without free names -/
namespace DL
open L2 PySem PySem.Spec PyProof.Rows
theorem noFree {scope : Scope} {cells : List (Str × Addr)} (h : (scope.names.all fun y => match y.2 with | .free => false | _ => true) = true) : ∀ y ∈ scope.names, y.2 = .free → ∃ c, cells.lookup y.1 = some c := fun y hy e => by
  have z := List.all_eq_true.mp h y hy
  rw [e] at z
  cases z
end DL
namespace DL
open L2 PySem PySem.Spec PyProof.Rows
theorem HasHeld {P : Program} {w : PySem.World} {K : PySem.W.Frag} {mg : Str → Option Value} {base : Heap} {k m : Nat} {x : Str} {ps : List Str} {sp : Sp} {f : Addr} (h : Has P w K mg base CX0 k x ps sp) (g : mg x = some (.ref f)) (hk : k ≤ m) : Held P w K mg base m f sp := by
  obtain ⟨f', fd, a, b, c, d⟩ := h
  have e : (Value.ref f') = .ref f := Option.some.inj (b.symm.trans g)
  cases e
  exact ⟨⟨fd, ps, a.mono hk, c, d⟩⟩
end DL

/-! a, b, c = e1, e2, e3 -/
namespace DL
open L2 PySem PySem.Spec PyProof.Rows
open Evl (Ex ex_l ex_t sz_of)
theorem lamScope {q : Str} {ps : Arguments} {body : Expr} {scope : Scope} {N : List Str} {x : Str} (h : FnScope N [x] scope) : FnScope N [x] (FV.mk q ps body scope).scope := h
section
variable {K : PySem.W.Frag} {T : Tb} {S : SA} {E : XK} {Hb H : Hp} {n : Nat}
theorem Args.three {ss : List SV} {vs : List V} {d e f : D} (h : Args K S Hb H n [.d d, .d e, .d f] vs) : ∃ v u t, vs = [v, u, t] ∧ Dn K Hb v d ∧ Dn K Hb u e ∧ Dn K Hb t f := by
  cases h with
  | cons h1 h2 =>
    obtain ⟨u, t, rfl, hu, ht⟩ := Args.two (ss := []) h2
    obtain ⟨_, e, hv⟩ := h1
    cases e
    exact ⟨_, _, _, rfl, hv, hu, ht⟩
end
end DL

/-! set comprehensions over any kind of things, told by what is new and what is added -/
namespace SCo
open L2 PySem PySem.Spec PyProof.Rows PpSet
/-- what stands where a set was just made -/
abbrev newO (w : World) : Obj := { cls := .type "set", dict := none, data := .set #[] 0 (.fresh 0 0 (!w.params.followText "set-order")) }
/-- the way in which a kind of things is gathered: what a new set is, what one more makes of it -/
structure Kd (prog : Program) (w : World) where
  o0 : Addr → HO
  one : Addr → V → Hp → (Hp → Prop) → Prop
  new : ∀ (H : Hp) (h : Heap), ObjOk prog w H (h.push (newO w)) h.objs.size (o0 h.objs.size)
  add : ∀ {X : Cx} {pins : List (Addr × Obj)} {σ : L2.St} {H : Hp} {s : Shared} {E : Value → Shared → Prop} {D : Addr} {y : V} {v : Value} {Nx : Hp → Prop} {Q : Value → Shared → Prop}, X.prog = prog → X.w = w → Inv X pins σ H s → RelV y v → one D y H Nx →
    (∀ s' H', Inv X pins σ H' s' → Nx H' → Q .none s') → wpAny (model X.prog X.w) X.A (call (.builtin "set.add") [.ref D, v]) Q E s
variable {X : Cx}
def tSc (k : Kd X.prog X.w) (wi : TI) (g : TG) (tt : TT) (te : TE) (vs : List Nat) : TE := fun σ H Q => wi σ H fun J H1 => ∀ D, H1 D = none →
  ∃ W : Nat → Nat → Hp → Prop, (∃ m, W 0 m (upd H1 D (k.o0 D))) ∧ ∀ i m H2, W i m H2 → (J.stop i H2 ∧ Q (.ref D) H2) ∨
    (J.go i H2 ∧ ∃ Nx : Hp → Prop, (∀ H3, Nx H3 → ∃ m2, m2 < m ∧ W (i + 1) m2 H3) ∧
      ∀ x H3, J.yld i H2 x H3 → g x (wipe σ vs) H3 fun σ4 H4 => wipe σ4 vs = wipe σ vs ∧ tt σ4 H4 fun b H5 => if b = true then te σ4 H5 fun y H6 => k.one D y H6 Nx else Nx H5)
theorem pe_sc (k : Kd X.prog X.w) {elt tg iter : Expr} {ifs : List Expr} {scope : Scope} {own : List (PySem.Str × Nat)} {pos : Pos} {wi : TI} {g : TG} {tt : TT} {te : TE} (calm : X.calm = true) (nod : X.N.Nodup) (piI : PI X tg iter wi) (blk : BlkOk X.N X.env.scope scope own)
    (gG : ∀ (s0 : Shared) (H0 : Hp) (C0 : Addr) (cl0 : List (PySem.Str × Addr)) (fp0 : List Addr), PG (X.blk s0 H0 scope (compEnvC scope cl0 C0 X.env) fp0) tg g)
    (gT : ∀ (s0 : Shared) (H0 : Hp) (C0 : Addr) (cl0 : List (PySem.Str × Addr)) (fp0 : List Addr), PTs (X.blk s0 H0 scope (compEnvC scope cl0 C0 X.env) fp0) ifs tt)
    (gE : ∀ (s0 : Shared) (H0 : Hp) (C0 : Addr) (cl0 : List (PySem.Str × Addr)) (fp0 : List Addr), PE (X.blk s0 H0 scope (compEnvC scope cl0 C0 X.env) fp0) elt te)
    (fold : ∀ x, foldedSetIterable iter X.env x = pure x := by intro _; rfl) : PE X (.SetComp elt [⟨tg, iter, ifs, 0⟩] scope pos) (tSc k wi g tt te (own.map (·.2))) := by
  refine ⟨fun pins s σ H Q inv hyp => ?_⟩
  rw [eval_SetComp]
  have cellOf : ∀ y ∈ scope.names, y.2 = .free → ∃ c, X.env.cells.lookup y.1 = some c := fun y my ey => (blk.free y my ey).elim (fun z => inv.ok.has _ (.inl z)) (fun z => inv.ok.has _ (.inr z))
  refine wpAny_comprehension_free rfl fold (closure_ok cellOf) blk.kind (fun y my ey => by rw [blk.uniq y my, ey]) (thn (piI.run pins s σ H _ inv hyp) fun _ sA hA => thn hA fun _ sB ⟨it, fp, stn, J, HB, eit, iB, trk, stB, fpB, rest⟩ => ?_)
  subst eit
  refine newSet_ok (newEnv_comp ?_)
  obtain ⟨D, eD⟩ : ∃ D, D = sB.heap.objs.size := ⟨_, rfl⟩
  have noD : HB D = none := iB.hok.fresh (Nat.le_of_eq eD.symm)
  obtain ⟨W, ⟨m0, start⟩, walk⟩ := rest D noD
  rw [← eD]
  obtain ⟨sC, eC⟩ : ∃ sC : Shared, sC = { sB with heap := sB.heap.push (newO X.w) } := ⟨_, rfl⟩
  have hC : sC.heap = sB.heap.push (newO X.w) := by rw [eC]
  obtain ⟨HC, eHC⟩ : ∃ HC, HC = upd HB D (k.o0 D) := ⟨_, rfl⟩
  have iC : Inv X pins σ HC sC := by
    rw [eC, eHC]
    exact iB.laid (t' := sB.toks) (fun _ _ q => Heap.get?_push_of_some _ q) (Nat.le_of_eq eD.symm) (by rw [eD]; exact k.new _ _)
  have old : ∀ b ∈ fp, b < sB.heap.objs.size := fun b mb => (trk.obj _ _ stB b mb).elim fun _ z => Heap.lt_size z.1
  have fpC : ∀ b ∈ fp, FpOk X pins HC b ∧ b < sC.heap.objs.size := fun b mb => by
    have lt := old b mb
    have neD : b ≠ D := fun z => by rw [z, eD] at lt; exact Nat.lt_irrefl _ lt
    exact ⟨⟨by rw [eHC, upd_ne neD]; exact (fpB b mb).1, (fpB b mb).2⟩, by rw [hC, Heap.size_push]; exact Nat.lt_succ_of_lt lt⟩
  have stC : stn 0 sC.heap := trk.keep _ _ _ stB fun b _ o q => by rw [hC]; exact Heap.get?_push_of_some _ q
  have noFp : ∀ b ∈ fp, HC b = none := fun b mb => (fpC b mb).1.1
  have iD := block_start iC blk nod fpC
  obtain ⟨C, eCs⟩ : ∃ C, C = sC.heap.objs.size := ⟨_, rfl⟩
  have aG := gG sC HC C (cellsFrom (C + 1) scope.names (cloFrom X.env.cells scope.names [])) fp
  have aT := gT sC HC C (cellsFrom (C + 1) scope.names (cloFrom X.env.cells scope.names [])) fp
  have aE := gE sC HC C (cellsFrom (C + 1) scope.names (cloFrom X.env.cells scope.names [])) fp
  rw [← eC]
  rw [← eCs] at iD ⊢
  show codeAny (model X.prog X.w) X.A (.compStart (.SetComp elt [⟨tg, iter, ifs, 0⟩] scope pos) 0 (.ref it) (.ref D) (compEnvC scope (cellsFrom (C + 1) scope.names (cloFrom X.env.cells scope.names [])) C X.env))
    (compPost (model X.prog X.w) X.A X.xe none (EP X pins σ Q) (.ref D) C) { sC with heap := pushCells (sC.heap.push { cls := .type "dict", data := .dict #[] }) scope.names }
  obtain ⟨ce, ece⟩ : ∃ ce, ce = compEnvC scope (cellsFrom (C + 1) scope.names (cloFrom X.env.cells scope.names [])) C X.env := ⟨_, rfl⟩
  have locC : ce.locals = C := by rw [ece]; rfl
  rw [← ece] at iD aG aT aE ⊢
  obtain ⟨sD, eSD⟩ : ∃ sD : Shared, sD = { sC with heap := pushCells (sC.heap.push { cls := .type "dict", data := .dict #[] }) scope.names } := ⟨_, rfl⟩
  rw [← eSD] at iD ⊢
  have stD : stn 0 sD.heap := trk.keep _ _ _ stC fun b _ o q => by rw [eSD]; exact pushCells_keeps _ _ _ _ (Heap.get?_push_of_some _ q)
  have still : ∀ {σ' : L2.St} {H' : Hp} {s' : Shared}, Inv (X.blk sC HC scope ce fp) [] σ' H' s' → (∀ b ∈ fp, H' b = none) → ∀ b ∈ fp, FpOk (X.blk sC HC scope ce fp) [] H' b := fun i' n' b mb =>
    ⟨n' b mb, (i'.ok.exf b mb).1, i'.ok.exfs b mb, .inl mb, fun _ _ q => (i'.ok.exf b mb).2 _ _ q, fun p mp => nomatch (show p ∈ ([] : List (Addr × Obj)) from mp)⟩
  have turns : codeAny (model X.prog X.w) X.A (.compLoop (.SetComp elt [⟨tg, iter, ifs, 0⟩] scope pos) 0 (.ref it) (.ref D) ce) (compPost (model X.prog X.w) X.A X.xe none (EP X pins σ Q) (.ref D) C) sD := by
    refine compLoopS_any (fun n s' => ∃ i H', Inv (X.blk sC HC scope ce fp) [] (wipe σ (own.map (·.2))) H' s' ∧ stn i s'.heap ∧ (∀ b ∈ fp, H' b = none) ∧ W i n H') (fun n sE hE => ?_) m0 ⟨0, HC, iD, stD, noFp, by rw [eHC]; exact start⟩
    obtain ⟨i, HE, iE, stE, noE, wE⟩ := hE
    rcases walk i n HE wE with ⟨stop, last⟩ | ⟨go, Nx, back, turn⟩
    · refine thnF (trk.done (X.blk sC HC scope ce fp) rfl rfl rfl calm i [] sE _ HE (fun _ _ => False) iE (still iE noE) stE stop) fun r sF ⟨er, iF⟩ => ?_
      subst er
      have iX : Inv X pins σ HE sF := iC.call' (ch := fp) iF.os iF.base iF.hok iF.bare fun b mb => ⟨(fpC b mb).1.2.2.2.1, (fpC b mb).1.2.1, (fpC b mb).1.2.2.2.2.1, (fpC b mb).1.2.2.2.2.2⟩
      have noC : HE C = none := by have z : HE ce.locals = none := iF.free; rw [locC] at z; exact z
      obtain ⟨m, ns, _⟩ := iF.loc
      have ns : sF.heap.Ns ce.locals m := ns
      rw [locC] at ns
      obtain ⟨f0, f1, f2, f3, f4, f5⟩ := iC.fpOk (Nat.le_of_eq eCs.symm) noC
      exact ⟨m, ns, fun _ sb => ⟨.ref D, HE, iX.turned (t' := sF.toks) (fun b o nb q => (sb.2 b nb).trans q) f0 f1 f3 f4 f5, rfl, last⟩⟩
    · refine thnF (trk.item (X.blk sC HC scope ce fp) rfl rfl rfl calm i [] sE _ HE (fun _ _ => False) iE (still iE noE) stE go) fun r sF ⟨u, er, hF⟩ => ?_
      subst er
      refine thnF hF fun _ sG ⟨x, HG, iG, rG, yG, stG, noG⟩ => ?_
      refine thnF (aG.run _ sG _ HG x u _ (iG.pinned (still iG noG) (trk.obj _ _ stG)) rG (turn x HG yG)) fun _ sK ⟨σK, HK, iK, wK, qK⟩ => ?_
      refine thnF (aT.run _ sK σK HK _ iK qK) fun b sL ⟨HL, iL, qL⟩ => ?_
      have around : ∀ {sM : Shared} {HM : Hp}, Inv (X.blk sC HC scope ce fp) ([] ++ pinsAt fp sG.heap) σK HM sM → Nx HM → ∃ m, m < n ∧ ∃ i H', Inv (X.blk sC HC scope ce fp) [] (wipe σ (own.map (·.2))) H' sM ∧ stn i sM.heap ∧ (∀ b ∈ fp, H' b = none) ∧ W i m H' := fun {sM HM} iM nM => by
        obtain ⟨m2, lt2, w2⟩ := back HM nM
        have pinned : ∀ b ∈ fp, ∀ o, sG.heap.get? b = some o → sM.heap.get? b = some o ∧ HM b = none := fun b mb o q =>
          have z := iM.pin (b, o) (List.mem_append_right _ (List.mem_append_right _ (mem_pinsAt mb q)))
          ⟨z.1, z.2.1⟩
        refine ⟨m2, lt2, i + 1, HM, (iM.unpinned (pins := [])).weak (by rw [← wK, wipe_length]) (fun j v q => by rw [← wK] at q; exact (wipe_some q).1), trk.keep _ _ _ stG fun b mb o q => (pinned b mb o q).1, fun b mb => ?_, w2⟩
        obtain ⟨o, q, _⟩ := trk.obj _ _ stG b mb
        exact (pinned b mb o q).2
      cases b with
      | false => exact around iL (by simpa using qL)
      | true =>
        have qL : te σK HL fun y H6 => k.one D y H6 Nx := by simpa using qL
        exact thnF (aE.run _ sL σK HL _ iL qL) fun v sM ⟨y, HM, iM, rM, qM⟩ => k.add (X := X.blk sC HC scope ce fp) rfl rfl iM rM qM fun _ _ iN nN => around iN nN
  exact codeAny_compStart_set turns (trk.self X.A 0 _ _ _ stD turns)
/-! ### ints -/
def intKd (prog : Program) (w : World) : Kd prog w where
  o0 := fun D => SetO w D (fun _ => false) 0
  one := fun D y H Nx => ∃ (c : Int) (S : Int → Bool) (n : Nat), y = .int c ∧ H D = some (SetO w D S n) ∧ n + 1 < scanBound ∧ Nx (upd H D (SetO w D (fun j => S j || decide (j = c)) (if S c = true then n else n + 1)))
  new := fun H h => setO_new (setR_fresh w)
  add := by
    rintro X pins σ H s E D y v Nx Q rfl rfl inv rv ⟨c, S, n, rfl, hD, room, nx⟩ fin
    obtain ⟨tk, rfl⟩ := rv
    refine setR_add (setO_get inv hD) room fun h' sb new => ?_
    have have' : ∃ u, h'.get? D = some u := by
      obtain ⟨o, _, _, _, ho, _⟩ := id new
      exact ⟨o, ho⟩
    exact fin _ _ (inv.write (e := D) (t' := s.toks + 1) (by rw [hD]; trivial) (.inl rfl) (fun b u nb q => (sb.2 b nb).trans q) have' (setO_new new)) nx
end SCo

/-! set(xs) of a list of ints -/
namespace SCo
open L2 PySem PySem.Spec PyProof.Rows
section
variable {P : Program} {w : World} {A : Around} {E : Value → Shared → Prop} {s : Shared}
theorem set_of_ints {l : Addr} {its : Array Value} (ns : List Int) {Q : Value → Shared → Prop} (calm : A.handled = none) (isl : s.heap.IsList l its) (isI : IntsAre its.toList ns) (few : ns.length + 1 < scanBound)
    (fin : ∀ (h' : Heap) (tk c : Nat), SetR w h' s.heap.objs.size (fun j => decide (j ∈ ns)) c → c ≤ ns.length → (∀ b o, s.heap.get? b = some o → h'.get? b = some o) → Q (.ref s.heap.objs.size) { s with heap := h', toks := tk }) :
    wpAny (model P w) A (call (.type "set") [.ref l]) Q E s := by
  have many : its.size = ns.length := by have q := isI.length; rwa [Array.length_toList] at q
  obtain ⟨_, _, mro⟩ := F.called_set.mro
  have f1 := F.called_set.made
  have f2 := F.called_set.sub
  have f3 := F.called_set.notType
  have f4 := F.called_set.canCreate
  have f5 := F.typeCall_set_1 (.ref l)
  refine wpAny_call (codeAny_of_tree (show wpAny _ _ (callAny (.type "set") _) _ _ _ from wpAny_pure ⟨Code.quiet_builtin _ (by decide +kernel), codeAny_builtin PySem.F.entry_type_call ?_⟩))
  rw [Around.under_plain (weight_type_call_type "set" [.ref l] []) rfl]
  repeat (any_goals (first | assumption | wp_step))
  refine codeAny_mono (code_set_led1 (.ref l) (E := E) (Q₁ := fun obj s1 => obj = .ref s.heap.objs.size ∧ s1 = { s with heap := s.heap.push (newO w) }) ⟨rfl, rfl⟩) fun r s1 hr => ?_
  rcases r with e | fl
  · exact hr
  rcases fl with _ | obj | _ | _
  case ok.ret =>
    obtain ⟨rfl, rfl⟩ := hr
    have at1 : (s.heap.push (newO w)).get? s.heap.objs.size = some (newO w) := Heap.get?_push_size _ rfl
    have ty1 : Shared.TypeIs { s with heap := s.heap.push (newO w) } (.ref s.heap.objs.size) "set" := ⟨_, at1, rfl⟩
    have f6 := F.called_set.init.lookup
    have f7 := F.called_set.init.bind (.ref s.heap.objs.size)
    repeat (any_goals (first | assumption | wp_step))
    refine codeAny_mono (codeAny_call_builtin (R := wants (fun r s2 => r = .none ∧ ∃ h' tk c, s2 = { s with heap := h', toks := tk } ∧ SetR w h' s.heap.objs.size (fun j => decide (j ∈ ns)) c ∧ c ≤ ns.length ∧ (∀ b o, s.heap.get? b = some o → h'.get? b = some o)) E)
      F.called_set.init.plain F.entry_set_init (check_set_init_1 ty1 ?_)) fun r2 s2 hr2 => ?_
    · obtain ⟨⟨oc, od, dt, os⟩, ol, oc2, nl, od2⟩ := isl
      simp only at oc2 od2
      subst oc2 od2
      have at2 : (s.heap.push (newO w)).get? l = some { cls := .type "list", dict := od, data := .seq its nl, slots := os } := Heap.get?_push_of_some _ ol
      have g1 := F.sub_list_set
      have g2 := F.sub_list_frozenset
      have g3 : (Value.type "list" == Value.type "dict") = false := by decide
      have isl2 : (s.heap.push (newO w)).IsList l its := ⟨_, at2, rfl, nl, rfl⟩
      unfold Builtin.«set.__init__» noKeywords Builtin.Frozenset.updateFrom
      generalize hPI : pyIter = PI
      wp_walk
      subst hPI
      refine wpAny_pyIter_list isl2 (wpAny_bind (wpAny_runValue ?_))
      have ltl : l < s.heap.objs.size := Heap.lt_size ol
      have calm3 : A.in1.in1.in1.handled = none := by simp [calm]
      have size1 : (s.heap.push (newO w)).objs.size = s.heap.objs.size + 1 := Heap.size_push ..
      have ne1 : l ≠ (s.heap.push (newO w)).objs.size := by rw [size1]; exact Nat.ne_of_lt (Nat.lt_succ_of_lt ltl)
      have out1 : s.heap.objs.size ∉ [(s.heap.push (newO w)).objs.size, l] := by
        rw [size1]
        simp only [List.mem_cons, List.not_mem_nil, or_false, not_or]
        exact ⟨Nat.ne_of_lt (Nat.lt_succ_self _), Nat.ne_of_gt ltl⟩
      refine set_update_ints ((Walks.list calm3 _ l ne1 its).toS) s.heap.objs.size out1 ns many few (fun i v hv => ?_) (its.size - 0) 0 _ (by omega) (Nat.zero_le _) ⟨⟨_, Heap.get?_push_size _ rfl, rfl, rfl⟩, isl2.push _⟩ ⟨0, Nat.le_refl 0, setR_new_at (Heap.get?_push_of_some _ at1)⟩ fun s3 c3 mv le3 hs3 => ?_
      · have lt : i < ns.length := by rw [← many]; exact (Array.getElem?_eq_some_iff.mp hv).1
        obtain ⟨t, e⟩ := PyProof.Rows.IntsAre.int_at isI i v (by rw [Array.getElem?_toList]; exact hv)
        exact ⟨ns[i], t, List.getElem?_eq_getElem lt, by rw [e, List.getD_eq_getElem?_getD, List.getElem?_eq_getElem lt]; rfl⟩
      · obtain ⟨h3, q1, q2, tk3, q3⟩ := s3
        cases (mv.gens : q1 = s.gens)
        cases (mv.drawn : q2 = s.drawn)
        cases (mv.os : q3 = s.os)
        refine wpAny_pure (show wpAny _ _ (ret Value.none) _ _ _ from wpAny_pure ⟨rfl, h3, tk3, c3, rfl, hs3, many ▸ le3, fun b o e => ?_⟩)
        have lt := Heap.lt_size e
        refine mv.heap b o ?_ (Heap.get?_push_of_some _ (Heap.get?_push_of_some _ e))
        simp only [List.mem_cons, List.not_mem_nil, or_false, not_or]
        rw [size1]
        exact ⟨Nat.ne_of_lt lt, Nat.ne_of_lt (Nat.lt_succ_of_lt lt)⟩
    · rcases r2 with e | fl2
      · exact hr2
      rcases fl2 with _ | r | _ | _
      case ok.ret =>
        obtain ⟨rfl, h', tk, c', rfl, z1, z2, z3⟩ := hr2
        repeat (any_goals (first | assumption | wp_step))
        exact fin _ _ _ z1 z2 z3
      all_goals exact hr2.elim
  all_goals exact hr.elim
end
variable {X : Cx}
/-- set(xs), xs a list of ints, as a thing of the heap -/
def rSetL (K : PySem.W.Frag) (w : World) : List V → Hp → VK → Prop := fun vs H Q => ∃ (a : Addr) (ns : List Int), vs = [.ref a] ∧ SqL K H a (ns.map V.int) ∧ ns.length < 2000 ∧ ∀ (p : Addr) (n : Nat), n ≤ ns.length → H p = none → Q (.ref p) (upd H p (SetO w p (fun j => decide (j ∈ ns)) n))
theorem vals_ints' : ∀ {ns : List Int} {us : List Value}, Vals (ns.map V.int) us → IntsAre us ns
  | [], _, h => by cases h; exact .nil
  | n :: ns, _, h => by
    cases h with
    | cons r rr =>
      obtain ⟨t, r⟩ := r
      subst r
      exact .cons n t (vals_ints' rr)
theorem cr_setL (calm : X.calm = true) : CallR X (.type "set") (rSetL X.K X.w) := by
  intro pins s σ H vs us Q I r h
  obtain ⟨a, ns, rfl, ha, few, q⟩ := h
  rw [Vals.ref1 r]
  obtain ⟨its, rv, p1, _⟩ := I.list ha
  have e2000 : (2000 : Nat) + 1 < scanBound := by decide
  refine set_of_ints ns (I.ok.hd calm) p1.isList (by simpa using vals_ints' rv) (by omega) fun h' tk c hs hc hk => ?_
  have J : Inv X pins σ (upd H s.heap.objs.size (SetO X.w s.heap.objs.size (fun j => decide (j ∈ ns)) c)) { s with heap := h', toks := tk } := I.laid (t' := tk) hk (Nat.le_refl _) (setO_new hs)
  exact ⟨.ref _, _, J, rfl, q _ c hc (I.hok.fresh (Nat.le_refl _))⟩
end SCo

/-! sorted({..}) and sorted(set(xs)) of ints, as data -/
namespace SCo
open L2 PySem PySem.Spec PyProof.Rows
theorem heap_of : ∀ n : Nat, ∃ h : Heap, h.objs.size = n
  | 0 => ⟨{ objs := #[] }, rfl⟩
  | n + 1 => by
    obtain ⟨h, e⟩ := heap_of n
    exact ⟨h.push { cls := .type "list", data := .seq #[] }, by rw [Heap.size_push, e]⟩
theorem set_no_code {w : World} {a c : Addr} {S : Int → Bool} {n : Nat} {q : PySem.Str} (z : SetO w a S n = LamX.CodeO c q) (e : c = a) : False := by
  subst e
  unfold SetO LamX.CodeO at z
  obtain ⟨h, hs⟩ := heap_of c
  have g : (h.push { cls := .type "code", data := .fields #[.none, .str q 0] }).get? c = some { cls := .type "code", data := .fields #[.none, .str q 0] } := by
    rw [← hs]
    exact Heap.get?_push_size _ rfl
  have z2 := congrFun (HO.ext.inj z) (h.push { cls := .type "code", data := .fields #[.none, .str q 0] })
  have r : SetR w (h.push { cls := .type "code", data := .fields #[.none, .str q 0] }) c S n := by
    rw [z2]
    exact ⟨_, #[.none, .str q 0], 0, g, rfl, rfl⟩
  obtain ⟨o, es, ep, t, h1, _, h2, _⟩ := r
  rw [g] at h1
  cases h1
  cases h2
end SCo
namespace DL
open L2 PySem PySem.Spec PyProof.Rows SCo
open Evl (Ex ex_l ex_t sz_of)
theorem setO_no {w : PySem.World} {a : Addr} {S : Int → Bool} {n : Nat} : ∀ ps, SetO w a S n ≠ .tbl ps := fun ps z => by unfold SetO at z; cases z
section
variable {P0 : Program} {w0 : PySem.World} {K : PySem.W.Frag} {T : Tb} {S : SA} {E : XK} {te : TE} {FE : DT}
/-- the things of a set comprehension, in their order -/
def scStep (G : DTG) (FT : DTT) (FE : DT) (vs : List Nat) (ρ : List SV) : D → Nat → (Option D → Nat → Prop) → Prop :=
  fun x n2 k => G x (wipeS ρ vs) fun ρ2 => FT ρ2 n2 (fun b n3 => match b with | true => FE ρ2 n3 (fun d n4 => ∃ c : Int, d = .int c ∧ k (some d) n4) xF | false => k none n3) xF
def xSortSc (FI : DTI) (G : DTG) (FT : DTT) (FE : DT) (vs : List Nat) : DT := fun ρ n P XP => FI ρ n (fun xs n1 => xs.length ≤ 63 ∧
  compM (fun x n2 k => G x (wipeS ρ vs) fun ρ2 => FT ρ2 n2 (fun b n3 => match b with | true => FE ρ2 n3 (fun d n4 => ∃ c : Int, d = .int c ∧ k (some d) n4) xF | false => k none n3) xF) xs n1 (fun ds n5 => ∃ ns : List Int, ds = ns.map D.int ∧ ∀ ns' : List Int, ns'.Pairwise (· < ·) → (∀ k, k ∈ ns' ↔ k ∈ ns) → P (.lst (ns'.map D.int)) n5)) XP
theorem mem_snoc (acc : List Int) (c : Int) : (fun j => decide (j ∈ acc) || decide (j = c)) = fun j => decide (j ∈ acc ++ [c]) := by
  funext j
  rw [← Bool.decide_or]
  simp [List.mem_append]
theorem rd_sortSc {wi : TI} {g : TG} {tt : TT} {FI : DTI} {G : DTG} {FT : DTT} {vs : List Nat} {X : Cx} (hw : X.w = w0) (hi : RdJ K T S E wi FI) (hg : RdG K T S vs g G) (ht : RdT K T S E0 tt FT) (he : DL.Rd K T S E0 te FE) :
    DL.Rd K T S E (tCB (rSortedSet X.w) (tCons (SCo.tSc (X := X) (intKd X.prog X.w) wi g tt te vs) tNil)) (xSortSc FI G FT FE vs) := fun σ ρ Hb H n P XP Q w sl h q x => by
  refine hi σ ρ Hb H n _ XP _ w sl h (fun xs n1 Hb1 H1 J s src p => ?_) x
  obtain ⟨hlen, p⟩ := p
  intro L hL
  have nSa : L ≠ S.a := s.wd.sa.ne (fresh_none hL)
  have nSl : L ≠ S.l := s.wd.sl.ne (fresh_none hL)
  refine ⟨fun i m H2 => m = xs.length - i ∧ i ≤ xs.length ∧ ∃ (n2 : Nat) (Hb2 : Hp) (acc : List Int) (c : Nat), Stp K T S Hb1 H1 n1 Hb2 H2 n2 ∧ H2 L = some (SetO X.w L (fun j => decide (j ∈ acc)) c) ∧ Hb2 L = none ∧ c ≤ acc.length ∧ acc.length ≤ i ∧
    compM (scStep G FT FE vs ρ) (xs.drop i) n2 fun ds n5 => ∃ ns : List Int, acc.map D.int ++ ds = ns.map D.int ∧ ∀ ns' : List Int, ns'.Pairwise (· < ·) → (∀ k, k ∈ ns' ↔ k ∈ ns) → P (.lst (ns'.map D.int)) n5,
    ⟨xs.length, rfl, Nat.zero_le _, n1, Hb1, [], 0, .newO s.wd hL setO_no, by simp [upd_same, intKd], free_of s.wd.ex hL, Nat.le_refl _, Nat.le_refl _, p⟩, ?_⟩
  rintro i m H2 ⟨rfl, hi2, n2, Hb2, acc, c, s2, eL, fL, lc, la, hc⟩
  obtain ⟨stop, go⟩ := src Hb2 H2 n2 i s2
  by_cases hlt : i < xs.length
  · have ex : xs[i]? = some xs[i] := List.getElem?_eq_getElem hlt
    obtain ⟨hgo, hy⟩ := go _ ex
    rw [List.drop_eq_getElem_cons hlt] at hc
    refine .inr ⟨hgo, fun H' => ∃ (n' : Nat) (Hb' : Hp) (acc : List Int) (c : Nat), Stp K T S Hb1 H1 n1 Hb' H' n' ∧ H' L = some (SetO X.w L (fun j => decide (j ∈ acc)) c) ∧ Hb' L = none ∧ c ≤ acc.length ∧ acc.length ≤ i + 1 ∧
      compM (scStep G FT FE vs ρ) (xs.drop (i + 1)) n' fun ds n5 => ∃ ns : List Int, acc.map D.int ++ ds = ns.map D.int ∧ ∀ ns' : List Int, ns'.Pairwise (· < ·) → (∀ k, k ∈ ns' ↔ k ∈ ns) → P (.lst (ns'.map D.int)) n5,
      fun H' hN => ⟨xs.length - (i + 1), by omega, rfl, hlt, hN⟩, fun v H' y => ?_⟩
    obtain ⟨Hb3, s3, hv⟩ := item_step (n := n2) s2.wd (hy v H' y)
    have st3 := s2.trans s3
    have sl3 : Sl0 K S (fun _ => none) Hb3 H' n2 (wipeS ρ vs) (wipe σ vs) := ⟨((sl.step s).step st3).wiped vs, fun _ _ _ _ _ _ => fresh_none rfl⟩
    refine hg v _ (wipe σ vs) (wipeS ρ vs) _ Hb3 H' n2 _ _ s3.wd sl3 hv hc fun ρ4 σ4 sl4 hw4 hT => ⟨hw4.trans wipe_wipe, ?_⟩
    obtain ⟨eL3, fL3⟩ := s3.own L _ eL fL nSa nSl setO_no (fun _ z => set_no_code z rfl)
    refine ht σ4 ρ4 Hb3 H' n2 _ xF _ s3.wd sl4.sl hT (fun b n4 Hb4 H4 s4 p4 => ?_) XOk.none
    obtain ⟨eL4, fL4⟩ := s4.own L _ eL3 fL3 nSa nSl setO_no (fun _ z => set_no_code z rfl)
    cases b with
    | false => exact iteF ⟨n4, Hb4, acc, c, st3.trans s4, eL4, fL4, lc, Nat.le_succ_of_le la, p4⟩
    | true =>
      refine iteT ?_
      refine he σ4 ρ4 Hb4 H4 n4 _ xF _ s4.wd (sl4.sl.step s4) p4 (fun d u n5 Hb5 H5 s5 hu p5 => ?_) XOk.none
      obtain ⟨k, rfl, p5⟩ := p5
      cases hu
      obtain ⟨eL5, fL5⟩ := s5.own L _ eL4 fL4 nSa nSl setO_no (fun _ z => set_no_code z rfl)
      have w5 := s5.wd
      have st5 := (st3.trans s4).trans s5
      have nT : ∀ q ∈ T, q.1 ≠ L := fun q hq z => by
        obtain ⟨ps, e, _⟩ := w5.tabs q hq
        rw [z, eL5] at e
        exact setO_no ps (Option.some.inj e)
      refine ⟨k, _, c, rfl, eL5, Nat.lt_of_lt_of_le (show c + 1 < 100 by omega) (by decide), n5, Hb5, acc ++ [k], if decide (k ∈ acc) = true then c else c + 1, ?_, by rw [upd_same, mem_snoc], fL5, ?_, by simp; omega, ?_⟩
      · refine ⟨st5.ex, ⟨fun b o e => ?_, fun q hq => ?_, w5.tb, w5.sa.upd setO_no, w5.sl.upd setO_no, w5.sc.upd setO_no, w5.nt⟩, fun h0 => ?_, fun b o e1 e2 e3 e4 e5 => ?_, fun b e => st5.dm b (dm_upd setO_no b e)⟩
        · rw [upd_ne (fun z => by rw [z, fL5] at e; cases e)]
          exact w5.ex b o e
        · obtain ⟨ps, e, t1, t2⟩ := w5.tabs q hq
          refine ⟨ps, by rw [upd_ne (nT q hq)]; exact e, t1, fun pos cv hcv => ?_⟩
          obtain ⟨c2, e1, e2⟩ := t2 pos cv hcv
          refine ⟨c2, e1, ?_⟩
          rw [upd_ne (fun z => by rw [z, eL5] at e2; exact set_no_code (Option.some.inj e2) rfl)]
          exact e2
        · obtain ⟨g1, g2, ls, cs, mm, t, g3, g4, g5, g6, g7, g8, rest⟩ := st5.st h0
          exact ⟨g1, g2, ls, cs, mm, t, g3, g4, g5, by rw [upd_ne nSa.symm]; exact g6, by rw [upd_ne nSl.symm]; exact g7, g8, rest⟩
        · have hb : b ≠ L := ne_of_none e1 hL
          rw [upd_ne hb]
          exact st5.own0 b o e1 e2 e3 e4 e5
      · rw [List.length_append]
        simp only [List.length_cons, List.length_nil]
        split <;> omega
      · have e6 : ∀ ds, (acc ++ [k]).map D.int ++ ds = acc.map D.int ++ (D.int k :: ds) := fun ds => by simp
        simp only [e6]
        exact p5
  · have e : i = xs.length := by omega
    subst e
    refine .inl ⟨stop (Nat.le_refl _), ?_⟩
    rw [List.drop_length] at hc
    obtain ⟨ns, e1, p9⟩ : ∃ ns : List Int, acc.map D.int ++ [] = ns.map D.int ∧ ∀ ns' : List Int, ns'.Pairwise (· < ·) → (∀ k, k ∈ ns' ↔ k ∈ ns) → P (.lst (ns'.map D.int)) n2 := hc
    rw [List.append_nil] at e1
    have e2 : acc = ns := by
      have z := congrArg (List.map fun d => match d with | D.int i => i | _ => 0) e1
      simpa [List.map_map, Function.comp_def] using z
    subst e2
    refine ⟨L, _, c, rfl, eL, by omega, fun ns' p2 h1 h2 h3 h4 => ?_⟩
    exact (q.step (s.trans s2)).new s2.wd h4 (.lst (SqL.of upd_same) (DnA.ints ns')) (p9 ns' h1 fun k => by rw [h2]; simp)
/-- sorted(set(xs)) -/
def xSortSet (F : DT) : DT := fun ρ n P XP => F ρ n (fun d n1 => ∃ ns : List Int, d = .lst (ns.map D.int) ∧ ns.length ≤ 63 ∧ ∀ ns' : List Int, ns'.Pairwise (· < ·) → (∀ k, k ∈ ns' ↔ k ∈ ns) → P (.lst (ns'.map D.int)) n1) XP
theorem rd_sortSet (h1 : DL.Rd K T S E te FE) : DL.Rd K T S E (tCB (rSortedSet w0) (tCons (tCB (rSetL K w0) (tCons te tNil)) tNil)) (xSortSet FE) := fun σ ρ Hb H n P XP Q w sl h q x =>
  h1 σ ρ Hb H n _ XP _ w sl h (fun d v n1 Hb1 H1 s hd p => by
    obtain ⟨ns, rfl, hl, p⟩ := p
    cases hd with
    | @lst a vs ds g1 g2 =>
      have e := ints_of g2
      subst e
      refine ⟨a, ns, rfl, ex_l s.wd.ex g1, by omega, fun L c hc hL => ?_⟩
      refine ⟨L, _, c, rfl, upd_same, by omega, fun ns' p2 i1 i2 i3 i4 => ?_⟩
      have s2 : Stp K T S Hb1 H1 n1 Hb1 (upd H1 L (SetO w0 L (fun j => decide (j ∈ ns)) c)) n1 := .newO s.wd hL setO_no
      exact (q.step (s.trans s2)).new s2.wd i4 (.lst (SqL.of upd_same) (DnA.ints ns')) (p ns' i1 fun k => by rw [i2]; simp)) x
end
end DL

/-! sorted(xs), xs a list or tuple of ints or of tuples of ints; <, >= of tuples of ints -/
namespace SCo
open L2 PySem PySem.Spec PyProof.Rows PySem.W
section
variable {prog : Program} {w : PySem.World} {A : Around} {E : Value → Shared → Prop} {s : Shared} {β : Type} {bs : List β} {enc : β → PyData} {R : Value → β → Prop}
/-- the items of a list or tuple, gathered anew; the heap only grows -/
theorem gathered {Q : List Value → Shared → Prop} (l : Addr) {T : String} {o : Obj} {its : Array Value} {n : Nat} (hT : T = "list" ∨ T = "tuple") (ho : s.heap.get? l = some o) (hc : o.cls = .type T) (hd : o.data = .seq its n) (hz : its.size ≤ sizeLine)
    (fin : ∀ h1 : Heap, (∀ b u, s.heap.get? b = some u → h1.get? b = some u) → s.heap.objs.size ≤ h1.objs.size → Q its.toList { s with heap := h1 }) : wpAny (model prog w) A (collect (.ref l)) Q E s := by
  have at1 : (s.heap.push { cls := .type "list", data := .seq ([] : List Value).toArray }).get? s.heap.objs.size = some { cls := .type "list", data := .seq #[] 0 } := Heap.get?_push_size _ rfl
  have at2 := Heap.get?_update_self (Obj.mapSeq (· ++ its)) at1 rfl
  unfold collect
  refine wpAny_bind (wpAny_runValue (codeAny_builtin F.entry_proto_collect ?_))
  rw [Around.under_plainId F.plain_proto_collect _]
  refine wpAny_bind (m := newList []) (wpAny_newObj_type (wpAny_pure ⟨plainId_quiet F.plain_list_iadd _, codeAny_builtin F.entry_list_iadd ?_⟩))
  rw [Around.under_plainId F.plain_list_iadd _]
  have out : wpAny (model prog w) A (match Value.ref s.heap.objs.size with
      | Value.ref a => do
        match (← load a).data with
          | Data.seq xs _ => pure xs.toList
          | _ => unsupported "internal:collect"
      | _ => unsupported "internal:collect") Q E { s with heap := (s.heap.push { cls := .type "list", data := .seq ([] : List Value).toArray }).update s.heap.objs.size (Obj.mapSeq (· ++ its)) } := by
    show wpAny _ A (load s.heap.objs.size >>= _) _ _ _
    refine wpAny_bind (wpAny_load at2 (wpAny_pure ?_))
    have e : ((#[] : Array Value) ++ its).toList = its.toList := by simp
    show Q ((#[] : Array Value) ++ its).toList _
    rw [e]
    exact fin _ (fun b u q => (Heap.get?_update_other _ _ (Nat.ne_of_gt (Heap.lt_size q))).trans (Heap.get?_push_of_some _ q)) (by rw [Heap.size_update, size_push']; exact Nat.le_succ _)
  refine wpAny_mono (wpAny_extend_seq (hsz := hz) (A := A) (R := fun r s1 => r = .ok (.ret (.ref s.heap.objs.size)) ∧ s1 = { s with heap := (s.heap.push { cls := .type "list", data := .seq ([] : List Value).toArray }).update s.heap.objs.size (Obj.mapSeq (· ++ its)) })
    (s := { s with heap := s.heap.push { cls := .type "list", data := .seq ([] : List Value).toArray } }) _ l _ 0 hT at1 (Heap.get?_push_of_some _ ho) hc hd ⟨rfl, rfl⟩) (fun f s1 h => ?_) (fun e s1 h => absurd h.1 (by simp))
  cases f with
  | done f =>
    obtain ⟨e, rfl⟩ := h
    cases e
    exact out
  | again c => exact ⟨h.1, codeAny_mono h.2 fun r s2 hr => by obtain ⟨rfl, rfl⟩ := hr; exact out⟩
end
end SCo

/-! as data: sorted of tuples of ints, < and >= of these -/
namespace SCo
open L2 PySem PySem.Spec PyProof.Rows PySem.W
section
variable {X : Cx}
/-! ### < and >= -/
end
end SCo
namespace DL
open L2 PySem PySem.Spec PyProof.Rows SCo
open Evl (Ex ex_l ex_t sz_of)
section
variable {K : PySem.W.Frag}
def tupI (ns : List Int) : D := .tup (ns.map D.int)
end
end DL

/-! min, max of a pair; in of tuples of tuples; xs[::-1]; pop(); extend; dicts of one's own by any key -/
namespace SCo
open L2 PySem PySem.Spec PyProof.Rows PySem.W
section
variable {X : Cx}
/-- in, not in of a tuple, its items any data -/
def rInT (K : PySem.W.Frag) (f : Bool → Bool) : R2 := fun x y H Q => ∃ d ds, Dp K H x d ∧ Dp K H y (.tuple ds) ∧ SeqAt.shaped d = true ∧ SeqAt.shaped (.tuple ds) = true ∧ Q (.bl (f (ds.any fun z => PyData.eqv z d))) H
theorem op_inT {k0 : Nat} (hr : Room k0 X.A) : OpR X (compareOp .In) (rInT X.K id) := by
  intro pins s σ H x y v u Q I rx ry h
  obtain ⟨d, ds, hd, he, sd, se, q⟩ := h
  obtain ⟨as, r1⟩ := Dp.reads I d x v hd rx
  obtain ⟨bs, r2⟩ := Dp.reads I (.tuple ds) y u he ry
  exact SeqAt.in_tuple_reads r2 r1 (SeqAt.canLay_of_shaped se) (SeqAt.canLay_of_shaped sd) (room_in_shaped sd (by have := hr.un; omega)) ⟨.bl _, H, I, rfl, q⟩
theorem op_notInT {k0 : Nat} (hr : Room k0 X.A) : OpR X (compareOp .NotIn) (rInT X.K not) := by
  intro pins s σ H x y v u Q I rx ry h
  obtain ⟨d, ds, hd, he, sd, se, q⟩ := h
  obtain ⟨as, r1⟩ := Dp.reads I d x v hd rx
  obtain ⟨bs, r2⟩ := Dp.reads I (.tuple ds) y u he ry
  exact SeqAt.notIn_tuple_reads r2 r1 (SeqAt.canLay_of_shaped se) (SeqAt.canLay_of_shaped sd) (room_in_shaped sd (by have := hr.un; omega)) ⟨.bl _, H, I, rfl, q⟩
end
end SCo
namespace DL
open L2 PySem PySem.Spec PyProof.Rows SCo
open Evl (Ex ex_l ex_t sz_of)
section
variable {K : PySem.W.Frag} {T : Tb} {S : SA} {E : XK} {te tk : TE} {FE FK : DT}
def inTD (f : Bool → Bool) : D → D → (D → Prop) → Prop := fun a b k => ∃ p ps, toP a = some p ∧ toP b = some (.tuple ps) ∧ SeqAt.shaped p = true ∧ SeqAt.shaped (.tuple ps) = true ∧ k (.bl (f (ps.any fun z => PyData.eqv z p)))
theorem o2_inT {f : Bool → Bool} : Op2 K (rInT K f) (inTD f) := by
  intro T S x y a b Hb H n P Q w hx hy h q
  obtain ⟨p, ps, e1, e2, s1, s2, h⟩ := h
  exact ⟨p, ps, Dn.toDp _ (w.dn hx) e1, Dn.toDp _ (w.dn hy) e2, s1, s2, q.now w (.bl _) h⟩
/-! ### xs[::-1] -/
/-! ### y = xs.pop() -/
theorem DnA.last : ∀ {vs : List V} {ds : List D} {d : D} {H : Hp}, DnA K H vs (ds ++ [d]) → ∃ us u, vs = us ++ [u] ∧ DnA K H us ds ∧ Dn K H u d
  | _, [], _, _, h => by
    cases h with
    | cons h1 h2 =>
      cases h2
      exact ⟨[], _, rfl, .nil, h1⟩
  | _, e :: ds, _, _, h => by
    cases h with
    | cons h1 h2 =>
      obtain ⟨us, u, rfl, h3, h4⟩ := DnA.last h2
      exact ⟨_ :: us, u, rfl, .cons h1 h3, h4⟩
/-! ### xs.extend([..]) -/
/-! ### k not in x, x[k] = e, x a dict of one's own -/
end
end DL

/-! facts of itertools.combinations -/
namespace RZ
open PySem PySem.Spec PyProof.Rows L2
namespace Cb
end Cb
end RZ

namespace RZ
open PySem PySem.Spec PyProof.Rows L2
open AutoSeq1 (wpAny_loadPart')
def tupObj (items : Array Value) : Obj := { cls := .type "tuple", data := .seq items }
section
variable {prog : Program} {w : World} {A : Around} {E : Value → Shared → Prop} {s : Shared}
end
end RZ

namespace RZ
open PySem PySem.Spec PyProof.Rows L2
open AutoSeq1 (wpAny_loadPart')
section
variable {prog : Program} {w : World} {A : Around} {E : Value → Shared → Prop} {s : Shared} {c p : Addr} {items : Array Value}
end
end RZ

/-! combinations(range(n), 2): as a loop's iterator -/
namespace DL
end DL
namespace RZ
open PySem PySem.Spec PyProof.Rows L2
end RZ
namespace DL
open L2 PySem PySem.Spec PyProof.Rows
open Evl (Ex ex_l ex_t sz_of)
section
variable {K : PySem.W.Frag} {T : Tb} {S : SA} {E : XK} {Hb H Hb1 H1 : Hp} {n n1 : Nat}
end
end DL

/-! dicts of one's own whose keys are tuples of ints: setdefault, sorted(d); sorted(set(xs)) of pairs; xs.index(pair) -/
namespace SCo
open L2 PySem PySem.Spec PyProof.Rows
section
variable {X : Cx} {pins : List (Addr × Obj)} {σ : L2.St} {H : Hp} {s : Shared} {a b : Addr} {r : Value} {v d : V} {A : Around} {E : Value → Shared → Prop}
end
section
variable {X : Cx} {o e f : Expr} {td ty tx : TE} {apos cpos : Pos}
end
section
variable {prog : Program} {w : World} {A : Around} {E : Value → Shared → Prop} {s : Shared}
end
section
variable {prog : Program} {w : World} {A : Around} {E : Value → Shared → Prop} {s : Shared} {T : String} {r d : Addr} {n : Nat} {P : Nat → Value → Prop} {OK : Heap → Prop}
end
section
variable {X : Cx}
end
end SCo

/-! dicts of one's own by tuples of ints, on data -/
namespace DL
open L2 PySem PySem.Spec PyProof.Rows SCo
open Evl (Ex ex_l ex_t sz_of)
section
variable {K : PySem.W.Frag} {T : Tb} {S : SA} {E : XK} {Hb H Hb1 H1 : Hp} {n n1 : Nat} {te : TE} {FE : DT}
def slotT (ρ : List SV) (i : Nat) (k : List (List Key) → List D → Prop) : Prop := match ρ[i]? with
  | some (.ot ks ds) => k ks ds
  | _ => False
theorem slotT_zero {ks : List (List Key)} {ds : List D} {ρ : List SV} {k : List (List Key) → List D → Prop} : slotT (.ot ks ds :: ρ) 0 k = k ks ds := rfl
theorem slotT_succ {s : SV} {ρ : List SV} {i : Nat} {k : List (List Key) → List D → Prop} : slotT (s :: ρ) (i + 1) k = slotT ρ i k := rfl
/-- the rest of the frame where the dict at p is rewritten -/
theorem Slots.putT {ρ : List SV} {σ : L2.St} {p : Addr} {kvs us : List (List Key × V)} (sl : Slots K S Hb H n ρ σ) (h1 : H p = some (.dT kvs)) (h3 : p ≠ S.a) (h4 : p ≠ S.l) (no : noOd ρ = true) : Slots K S Hb (upd H p (.dT us)) n ρ σ := by
  have keep : ∀ {b : Addr} {o : HO}, H b = some o → b ≠ p → upd H p (.dT us) b = some o := fun e hb => by rw [upd_ne hb]; exact e
  refine ⟨sl.len, fun j s e => ?_, sl.ap⟩
  obtain ⟨o, e1, e2⟩ := sl.ok j s e
  refine ⟨o, e1, ?_⟩
  cases s with
  | no => trivial
  | d x => exact e2
  | st =>
    obtain ⟨e3, st⟩ := e2
    obtain ⟨g1, g2, ls, cs, m, t, g3, g4, g5, g6, g7, g8, rest⟩ := st
    exact ⟨e3, g1, g2, ls, cs, m, t, g3, g4, g5, keep g6 h3.symm, keep g7 h4.symm, g8, rest⟩
  | ol zs =>
    obtain ⟨q, ws, e3, e4, rest⟩ := e2
    exact ⟨q, ws, e3, keep e4 (fun z => by rw [z, h1] at e4; cases e4), rest⟩
  | me y C ms es2 =>
    obtain ⟨e3, dx, fs, e4, rest⟩ := e2
    exact ⟨e3, dx, fs, keep e4 (fun z => by rw [z, h1] at e4; cases e4), rest⟩
  | od ks es2 => exact nomatch (noOd_get no e)
  | ot ks es2 => exact nomatch (noOd_get no e)
  | fv F =>
    obtain ⟨f, c, e3, e4, e5, rest⟩ := e2
    exact ⟨f, c, e3, e4, keep e5 (fun z => by rw [z, h1] at e5; exact codeO_no (o := .dT kvs) (fun _ z => by cases z) (Option.some.inj e5)), rest⟩
end
end DL

/-! [x[y] for y in sorted(x)], x a dict of one's own by tuples of ints; sorted(set(xs)) of pairs; xs.index(pair) -/
namespace DL
open L2 PySem PySem.Spec PyProof.Rows SCo
open Evl (Ex ex_l ex_t sz_of)
section
variable {K : PySem.W.Frag} {T : Tb} {S : SA} {E : XK} {Hb H Hb1 H1 : Hp} {n n1 : Nat} {te : TE} {FE : DT}
/-! ### xs.index(y), xs tuples of ints -/
def dT (ns : List Int) : PyData := .tuple (ns.map .int)
theorem toPs_ints : ∀ ns : List Int, toPs (ns.map D.int) = some (ns.map .int)
  | [] => rfl
  | n :: ns => by
    show (match toP (D.int n), toPs (ns.map D.int) with | some p, some ps => some (p :: ps) | _, _ => none) = _
    rw [toPs_ints ns]
    rfl
theorem toP_tup (ns : List Int) : toP (tupI ns) = some (dT ns) := by
  show (toPs (ns.map D.int)).map PyData.tuple = _
  rw [toPs_ints]
  rfl
theorem shaped_tup (ns : List Int) : SeqAt.shaped (dT ns) = true := by
  unfold SeqAt.shaped dT
  simp [PyData.canLay0, lay_ints ns, PyData.depth, depth_ints ns]
theorem eqv_ints : ∀ (a b : List Int), PyData.eqvAll (a.map PyData.int) (b.map PyData.int) = decide (a = b)
  | [], [] => by simp [PyData.eqvAll]
  | [], _ :: _ => by simp [PyData.eqvAll]
  | _ :: _, [] => by simp [PyData.eqvAll]
  | x :: a, y :: b => by
    simp only [List.map_cons, PyData.eqvAll, PyData.eqv, eqv_ints a b]
    by_cases h : x = y
    · subst h; simp
    · simp [h]
theorem eqv_dT (a b : List Int) : PyData.eqv (dT a) (dT b) = decide (a = b) := by
  unfold dT
  simp only [PyData.eqv]
  exact eqv_ints a b
end
end DL

/-! list(range(a, b)) -/
namespace DL
open L2 PySem PySem.Spec PyProof.Rows
open Evl (Ex ex_l ex_t sz_of)
section
variable {K : PySem.W.Frag} {T : Tb} {S : SA} {E : XK} {ta tb : TE} {FA FB : DT}
theorem hu65_of {k : Nat} {A : Around} (hr : Room k A) : A.units + 65 < cLine := by have := hr.un; omega
end
end DL

/-! list + list; in of lists -/
namespace SCo
open L2 PySem PySem.Spec PyProof.Rows
def rCatL (K : PySem.W.Frag) : R2 := fun x y H Q => ∃ l b xs zs, x = .ref l ∧ y = .ref b ∧ SqL K H l xs ∧ SqL K H b zs ∧ xs.length + zs.length ≤ sizeLine ∧ ∀ p, H p = none → Q (.ref p) (upd H p (.lst (xs ++ zs)))
theorem op_catL {X : Cx} : OpR X (binaryOp .Add) (rCatL X.K) := by
  intro pins s σ H x y v u Q I rx ry h
  obtain ⟨l, b, xs, zs, rfl, rfl, h1, h2, hz, q⟩ := h
  cases rx
  cases ry
  obtain ⟨its, r1, p1, z1⟩ := I.list h1
  obtain ⟨its2, r2, p2, z2⟩ := I.list h2
  obtain ⟨⟨c1, d1, x1, k1⟩, g1, e1, n1, f1⟩ := id p1.isList
  obtain ⟨⟨c2, d2, x2, k2⟩, g2, e2, n2, f2⟩ := id p2.isList
  dsimp only at e1 f1 e2 f2
  subst e1 f1 e2 f2
  have l1 := r1.length
  have l2 := r2.length
  refine concat_meets ⟨_, g1, rfl⟩ ⟨_, g2, rfl⟩ noFill_list_add seq_list_add PySem.F.slot_list_add PySem.F.entry_list_add (PySem.F.args_list_add_2 _ _) (list_addW l b its.toArray its2.toArray n1 n2 d1 d2 k1 k2 (by rw [List.size_toArray, List.size_toArray]; omega)) ⟨g1, g2, ?_⟩
  have e : its.toArray ++ its2.toArray = (its ++ its2).toArray := by simp
  rw [e]
  exact ⟨.ref _, _, I.lnew (t' := s.toks) (r1.append r2) (by rw [List.length_append]; omega), rfl, q _ I.fresh⟩
end SCo
namespace DL
open L2 PySem PySem.Spec PyProof.Rows SCo
open Evl (Ex ex_l ex_t sz_of)
section
variable {K : PySem.W.Frag} {T : Tb} {S : SA} {E : XK} {te : TE} {FE : DT}
def addLD : D → D → (D → Prop) → Prop
  | .lst xs, .lst ys, k => xs.length + ys.length ≤ 100000 ∧ k (.lst (xs ++ ys))
  | _, _, _ => False
theorem o2_addL : Op2 K (rCatL K) addLD := by
  intro T S x y a b Hb H n P Q w hx hy h q
  cases hx with
  | @lst a xs ds h1 h2 =>
    cases hy with
    | @lst b ys es h3 h4 =>
      obtain ⟨hl, h⟩ := h
      exact ⟨a, b, xs, ys, rfl, rfl, ex_l w.ex h1, ex_l w.ex h3, sz_of (by rw [h2.len, h4.len]; exact hl), fun p hp => q.new w hp (.lst (SqL.of upd_same) ((h2.app h4).up (Ex.new (free_of w.ex hp)))) h⟩
    | _ => exact h.elim
  | _ => exact h.elim
theorem toPs_intsL : ∀ ns : List Int, toP (.lst (ns.map D.int)) = some (.list (ns.map .int)) := fun ns => by
  show (toPs (ns.map D.int)).map PyData.list = _
  rw [toPs_ints]
  rfl
theorem any_eqv (i : Int) : ∀ ns : List Int, ((ns.map PyData.int).any fun z => PyData.eqv z (.int i)) = ns.any (· == i)
  | [] => rfl
  | n :: ns => by
    rw [List.map_cons, List.any_cons, List.any_cons, any_eqv i ns]
    rfl
end
end DL

/-! set(xs) of tuples of ints, xs of any length, few different ones -/
namespace SCo
open L2 PySem PySem.Spec PyProof.Rows
section
variable {P : Program} {w : World} {A : Around} {E : Value → Shared → Prop} {s : Shared}
variable {I : Addr} {fp wr : List Addr} {G : Array GenState → Array GenState → Prop} {n : Nat} {Pv : Nat → Value → Prop} {St : Nat → Shared → Prop} {R : Result → Shared → Prop} {S : Addr} {ks : List (Addr × List Int)} {h0 : Heap}
end
end SCo

/-! zip of three tuples of one length: as a walk, and as a value that a comprehension walks -/
namespace RZ
open PySem PySem.Calls PyProof.Rows PyProof.V PySem.Spec PySem.W L2
abbrev IsTri (h : Heap) (T : Addr) (a b c : Value) : Prop := h.get? T = some { cls := .type "tuple", data := .seq #[a, b, c] }
/-- where the zip of three tuples and its parts stand, in h, with what was elsewhere in h0 -/
structure Z3 (h0 h : Heap) (z TI TO i1 i2 i3 l1 l2 l3 : Addr) (f0 a b c : Value) (k1 k2 k3 : Nat) : Prop where
  zp : IsZip h z TI TO f0
  ti : IsTri h TI (.ref i1) (.ref i2) (.ref i3)
  to : IsTri h TO a b c
  one : h.IsTupleIter i1 l1 k1
  two : h.IsTupleIter i2 l2 k2
  thr : h.IsTupleIter i3 l3 k3
  keep : ∀ d o, d ∉ [z, TI, TO, i1, i2, i3] → h0.get? d = some o → h.get? d = some o
  sz : h.objs.size = h0.objs.size
section
variable {h0 h h' : Heap} {z TI TO i1 i2 i3 l1 l2 l3 : Addr} {f0 a b c : Value} {k1 k2 k3 : Nat}
theorem ap3 (D : [z, TI, TO, i1, i2, i3].Nodup) : (z ≠ TI ∧ z ≠ TO ∧ z ≠ i1 ∧ z ≠ i2 ∧ z ≠ i3) ∧ (TI ≠ TO ∧ TI ≠ i1 ∧ TI ≠ i2 ∧ TI ≠ i3) ∧ (TO ≠ i1 ∧ TO ≠ i2 ∧ TO ≠ i3) ∧ (i1 ≠ i2 ∧ i1 ≠ i3) ∧ i2 ≠ i3 := by
  simpa using D
theorem Z3.base (x : Z3 h0 h z TI TO i1 i2 i3 l1 l2 l3 f0 a b c k1 k2 k3) : Z3 h h z TI TO i1 i2 i3 l1 l2 l3 f0 a b c k1 k2 k3 := ⟨x.zp, x.ti, x.to, x.one, x.two, x.thr, fun _ _ _ g => g, rfl⟩
theorem Z3.push (x : Z3 h0 h z TI TO i1 i2 i3 l1 l2 l3 f0 a b c k1 k2 k3) (o : Obj) : Z3 (h.push o) (h.push o) z TI TO i1 i2 i3 l1 l2 l3 f0 a b c k1 k2 k3 :=
  ⟨Heap.get?_push_of_some _ x.zp, Heap.get?_push_of_some _ x.ti, Heap.get?_push_of_some _ x.to, x.one.at fun o e => Heap.get?_push_of_some _ e, x.two.at fun o e => Heap.get?_push_of_some _ e, x.thr.at fun o e => Heap.get?_push_of_some _ e, fun _ _ _ g => g, rfl⟩
theorem Z3.lt (x : Z3 h0 h z TI TO i1 i2 i3 l1 l2 l3 f0 a b c k1 k2 k3) : ∀ q ∈ [z, TI, TO, i1, i2, i3], q < h.objs.size := fun q hq => by
  simp only [List.mem_cons, List.not_mem_nil, or_false] at hq
  rcases hq with rfl | rfl | rfl | rfl | rfl | rfl
  · exact Heap.lt_size x.zp
  · exact Heap.lt_size x.ti
  · exact Heap.lt_size x.to
  · obtain ⟨_, e, _⟩ := x.one; exact Heap.lt_size e
  · obtain ⟨_, e, _⟩ := x.two; exact Heap.lt_size e
  · obtain ⟨_, e, _⟩ := x.thr; exact Heap.lt_size e
theorem Z3.tup (x : Z3 h0 h z TI TO i1 i2 i3 l1 l2 l3 f0 a b c k1 k2 k3) {l : Addr} {us : Array Value} (n : l ∉ [z, TI, TO, i1, i2, i3]) (hl : h0.IsTuple l us) : h.IsTuple l us := hl.at fun o g => x.keep _ o n g
end
section
variable {prog : Program} {w : World} {A : Around} {E : Value → Shared → Prop} {s : Shared}
end
end RZ
namespace RZ
open PySem PySem.Calls PyProof.Rows PyProof.V PySem.Spec PySem.W L2
theorem Z3.let {h0 h h' : Heap} {z TI TO i1 i2 i3 l1 l2 l3 : Addr} {f0 f1 a b c : Value} {k1 k2 k3 : Nat} (x : Z3 h0 h z TI TO i1 i2 i3 l1 l2 l3 f0 a b c k1 k2 k3) (D : [z, TI, TO, i1, i2, i3].Nodup) (hz : IsZip h' z TI TO f1) (e : Heap.SameBut z h h') : Z3 h' h' z TI TO i1 i2 i3 l1 l2 l3 f1 a b c k1 k2 k3 := by
  obtain ⟨⟨d1, d2, d3, d4, d5⟩, _⟩ := ap3 D
  exact ⟨hz, (e.2 _ d1.symm).trans x.ti, (e.2 _ d2.symm).trans x.to, x.one.at fun o g => (e.2 _ d3.symm).trans g, x.two.at fun o g => (e.2 _ d4.symm).trans g, x.thr.at fun o g => (e.2 _ d5.symm).trans g, fun _ _ _ g => g, rfl⟩
end RZ
namespace RZ
open PySem PySem.Calls PyProof.Rows PyProof.V PySem.Spec PySem.W L2
def drop (H : Hp) (ds : List Addr) : Hp := fun b => if b ∈ ds then none else H b
end RZ

/-! zip of three tuples, on data -/
namespace DL
open L2 PySem PySem.Spec PyProof.Rows
open Evl (Ex ex_l ex_t sz_of)
section
variable {K : PySem.W.Frag} {T : Tb} {S : SA} {E : XK} {Hb H Hb1 H1 : Hp} {n n1 : Nat} {te : TE} {FE : DT}
/-- a comprehension, from where its walk begins -/
theorem lc_at {g : TG} {tt : TT} {G : DTG} {FT : DTT} {vs : List Nat} {P : List D → Nat → Prop} {Q : VK} {J : It} {xs : List D} {σ : L2.St} {ρ : List SV} (hg : RdG K T S vs g G) (ht : RdT K T S E0 tt FT) (he : DL.Rd K T S E0 te FE) (sl : Slots K S Hb H n ρ σ) (s : Stp K T S Hb H n Hb1 H1 n1) (src : SrcJ K T S J Hb1 H1 n1 xs)
    (p : xs.length ≤ 100000 ∧ compM (fun x n2 k => G x (wipeS ρ vs) fun ρ2 => FT ρ2 n2 (fun b n3 => match b with | true => FE ρ2 n3 (fun d n4 => k (some d) n4) xF | false => k none n3) xF) xs n1 P)
    (q : ∀ ds p vs n' Hb' H', Stp K T S Hb H n Hb' H' n' → Fresh H p → H' p = some (.lst vs) → Hb' p = none → DnA K Hb' vs ds → P ds n' → Q (.ref p) H') :
    ∀ L, H1 L = none → ∃ W : Nat → Nat → Hp → Prop, (∃ m, W 0 m (upd H1 L (.lst []))) ∧ ∀ i m H, W i m H → (J.stop i H ∧ Q (.ref L) H) ∨ (J.go i H ∧ ∃ Nx : Hp → Prop, (∀ H', Nx H' → ∃ m', m' < m ∧ W (i + 1) m' H') ∧
      ∀ x H', J.yld i H x H' → g x (wipe σ vs) H' fun σ2 H2 => wipe σ2 vs = wipe σ vs ∧ tt σ2 H2 fun b H3 => if b = true then te σ2 H3 fun y H4 => ∃ acc, H4 L = some (.lst acc) ∧ acc.length < sizeLine ∧ Nx (upd H4 L (.lst (acc ++ [y]))) else Nx H3) := by
  obtain ⟨hlen, p⟩ := p
  intro L hL
  have nSa : L ≠ S.a := s.wd.sa.ne (fresh_none hL)
  have nSl : L ≠ S.l := s.wd.sl.ne (fresh_none hL)
  have nSc : L ≠ S.c := s.wd.sc.ne (fresh_none hL)
  refine ⟨fun i m H2 => m = xs.length - i ∧ i ≤ xs.length ∧ ∃ n2 Hb2 accV acc, Stp K T S Hb1 H1 n1 Hb2 H2 n2 ∧ H2 L = some (.lst accV) ∧ Hb2 L = none ∧ DnA K Hb2 accV acc ∧ acc.length ≤ i ∧
    compM (fun x n2 k => G x (wipeS ρ vs) fun ρ2 => FT ρ2 n2 (fun b n3 => match b with | true => FE ρ2 n3 (fun d n4 => k (some d) n4) xF | false => k none n3) xF) (xs.drop i) n2 fun ds n5 => P (acc ++ ds) n5,
    ⟨xs.length, rfl, Nat.zero_le _, n1, Hb1, [], [], .newO s.wd hL, upd_same, free_of s.wd.ex hL, .nil, Nat.le_refl _, p⟩, ?_⟩
  rintro i m H2 ⟨rfl, hi2, n2, Hb2, accV, acc, s2, eL, fL, hacc, la, hc⟩
  obtain ⟨stop, go⟩ := src Hb2 H2 n2 i s2
  by_cases hlt : i < xs.length
  · have ex : xs[i]? = some xs[i] := List.getElem?_eq_getElem hlt
    obtain ⟨hgo, hy⟩ := go _ ex
    have ed : xs.drop i = xs[i] :: xs.drop (i + 1) := List.drop_eq_getElem_cons hlt
    rw [ed] at hc
    refine .inr ⟨hgo, fun H' => ∃ n' Hb' accV acc, Stp K T S Hb1 H1 n1 Hb' H' n' ∧ H' L = some (.lst accV) ∧ Hb' L = none ∧ DnA K Hb' accV acc ∧ acc.length ≤ i + 1 ∧
      compM (fun x n2 k => G x (wipeS ρ vs) fun ρ2 => FT ρ2 n2 (fun b n3 => match b with | true => FE ρ2 n3 (fun d n4 => k (some d) n4) xF | false => k none n3) xF) (xs.drop (i + 1)) n' fun ds n5 => P (acc ++ ds) n5,
      fun H' hN => ⟨xs.length - (i + 1), by omega, rfl, hlt, hN⟩, fun v H' y => ?_⟩
    obtain ⟨Hb3, s3, hv⟩ := item_step (n := n2) s2.wd (hy v H' y)
    have st3 := s2.trans s3
    have sl3 : Sl0 K S (fun _ => none) Hb3 H' n2 (wipeS ρ vs) (wipe σ vs) := ⟨((sl.step s).step st3).wiped vs, fun _ _ _ _ _ _ => fresh_none rfl⟩
    have ne : ∀ ps, HO.lst accV ≠ .tbl ps := fun ps z => by cases z
    refine hg v _ (wipe σ vs) (wipeS ρ vs) _ Hb3 H' n2 _ _ s3.wd sl3 hv hc fun ρ4 σ4 sl4 hw hT => ⟨hw.trans wipe_wipe, ?_⟩
    obtain ⟨eL3, fL3⟩ := s3.own L _ eL fL nSa nSl ne
    refine ht σ4 ρ4 Hb3 H' n2 _ xF _ s3.wd sl4.sl hT (fun b n4 Hb4 H4 s4 p4 => ?_) XOk.none
    obtain ⟨eL4, fL4⟩ := s4.own L _ eL3 fL3 nSa nSl ne
    have hacc4 := (hacc.up s3.ex).up s4.ex
    cases b with
    | false => exact iteF ⟨n4, Hb4, accV, acc, st3.trans s4, eL4, fL4, hacc4, Nat.le_succ_of_le la, p4⟩
    | true =>
      refine iteT ?_
      refine he σ4 ρ4 Hb4 H4 n4 _ xF _ s4.wd (sl4.sl.step s4) p4 (fun d u n5 Hb5 H5 s5 hu p5 => ?_) XOk.none
      obtain ⟨eL5, fL5⟩ := s5.own L _ eL4 fL4 nSa nSl ne
      have hacc5 := hacc4.up s5.ex
      have w5 := s5.wd
      have st5 := (st3.trans s4).trans s5
      have nT : ∀ q ∈ T, q.1 ≠ L := fun q hq z => by
        obtain ⟨ps, e, _⟩ := w5.tabs q hq
        rw [z, eL5] at e
        cases e
      refine ⟨accV, eL5, ?_, n5, Hb5, accV ++ [u], acc ++ [d], ?_, upd_same, fL5, hacc5.app (.one hu), by simp; omega, ?_⟩
      · rw [hacc5.len]
        exact Nat.lt_of_le_of_lt la (Nat.lt_of_lt_of_le hlt (sz_of hlen))
      · -- the list has grown
        refine ⟨st5.ex, ⟨fun b o e => ?_, fun q hq => ?_, w5.tb, ?_, ?_, ?_, w5.nt⟩, fun h0 => ?_, fun b o e1 e2 e3 e4 e5 => ?_, fun b e => st5.dm b (dm_upd (fun _ z => by cases z) b e)⟩
        · rw [upd_ne (fun z => by rw [z, fL5] at e; cases e)]
          exact w5.ex b o e
        · obtain ⟨ps, e, t1, t2⟩ := w5.tabs q hq
          refine ⟨ps, by rw [upd_ne (nT q hq)]; exact e, t1, fun pos cv hcv => ?_⟩
          obtain ⟨c, e1, e2⟩ := t2 pos cv hcv
          refine ⟨c, e1, ?_⟩
          rw [upd_ne (fun z => by rw [z, eL5] at e2; unfold LamX.CodeO at e2; cases e2)]
          exact e2
        · exact w5.sa.upd fun _ z => by cases z
        · exact w5.sl.upd fun _ z => by cases z
        · exact w5.sc.upd fun _ z => by cases z
        · obtain ⟨g1, g2, ls, cs, mm, t, g3, g4, g5, g6, g7, g8, rest⟩ := st5.st h0
          exact ⟨g1, g2, ls, cs, mm, t, g3, g4, g5, by rw [upd_ne nSa.symm]; exact g6, by rw [upd_ne nSl.symm]; exact g7, g8, rest⟩
        · have hb : b ≠ L := ne_of_none e1 hL
          rw [upd_ne hb]
          exact st5.own0 b o e1 e2 e3 e4 e5
      · have e6 : ∀ ds, (acc ++ [d]) ++ ds = acc ++ (d :: ds) := fun ds => by simp
        simp only [e6]
        exact p5
  · have e : i = xs.length := by omega
    subst e
    refine .inl ⟨stop (Nat.le_refl _), ?_⟩
    rw [List.drop_length] at hc
    have hc : P (acc ++ []) n2 := hc
    rw [List.append_nil] at hc
    exact q acc L accV n2 Hb2 H2 (s.trans s2) (s.dm L (fresh_none hL)) eL fL hacc hc

end
end DL

/-! in of lists of tuples of ints; comprehensions with two fors -/
namespace DL
open L2 PySem PySem.Spec PyProof.Rows SCo
open Evl (Ex ex_l ex_t sz_of)
section
variable {K : PySem.W.Frag} {T : Tb} {S : SA} {E : XK} {Hb H Hb1 H1 : Hp} {n n1 : Nat} {te : TE} {FE : DT}
/-- a list of one's own, not frozen, grows by one -/
theorem Stp.grow {L : Addr} {accV : List V} {u : V} (st5 : Stp K T S Hb H n Hb1 H1 n1) (hL : H L = none) (eL5 : H1 L = some (.lst accV)) (fL5 : Hb1 L = none) (nSa : L ≠ S.a) (nSl : L ≠ S.l) : Stp K T S Hb H n Hb1 (upd H1 L (.lst (accV ++ [u]))) n1 := by
  have w5 := st5.wd
  have nT : ∀ q ∈ T, q.1 ≠ L := fun q hq z => by
    obtain ⟨ps, e, _⟩ := w5.tabs q hq
    rw [z, eL5] at e
    cases e
  refine ⟨st5.ex, ⟨fun b o e => ?_, fun q hq => ?_, w5.tb, ?_, ?_, ?_, w5.nt⟩, fun h0 => ?_, fun b o e1 e2 e3 e4 e5 => ?_, fun b e => st5.dm b (dm_upd (fun _ z => by cases z) b e)⟩
  · rw [upd_ne (fun z => by rw [z, fL5] at e; cases e)]
    exact w5.ex b o e
  · obtain ⟨ps, e, t1, t2⟩ := w5.tabs q hq
    refine ⟨ps, by rw [upd_ne (nT q hq)]; exact e, t1, fun pos cv hcv => ?_⟩
    obtain ⟨c, e1, e2⟩ := t2 pos cv hcv
    refine ⟨c, e1, ?_⟩
    rw [upd_ne (fun z => by rw [z, eL5] at e2; unfold LamX.CodeO at e2; cases e2)]
    exact e2
  · exact w5.sa.upd fun _ z => by cases z
  · exact w5.sl.upd fun _ z => by cases z
  · exact w5.sc.upd fun _ z => by cases z
  · obtain ⟨g1, g2, ls, cs, mm, t, g3, g4, g5, g6, g7, g8, rest⟩ := st5.st h0
    exact ⟨g1, g2, ls, cs, mm, t, g3, g4, g5, by rw [upd_ne nSa.symm]; exact g6, by rw [upd_ne nSl.symm]; exact g7, g8, rest⟩
  · have hb : b ≠ L := ne_of_none e1 hL
    rw [upd_ne hb]
    exact st5.own0 b o e1 e2 e3 e4 e5
/-- nothing but data in the slots -/
def plainS (ρ : List SV) : Bool := ρ.all fun s => match s with | .d _ => true | .no => true | _ => false
theorem Slots.plain {ρ : List SV} {σ : L2.St} {Hb' H' : Hp} {n' : Nat} (h : plainS ρ = true) (sl : Slots K S Hb H n ρ σ) (e : Ex Hb Hb') : Slots K S Hb' H' n' ρ σ where
  len := sl.len
  ok := fun i s es => by
    obtain ⟨o, e1, e2⟩ := sl.ok i s es
    refine ⟨o, e1, ?_⟩
    have hp := List.all_eq_true.mp h s (List.mem_of_getElem? es)
    cases s with
    | no => trivial
    | d x =>
      obtain ⟨v, q, hv⟩ := e2
      exact ⟨v, q, hv.up e⟩
    | _ => cases hp
  ap := fun i j p xs ys hne e1 e2 e3 e4 => by
    have hp := List.all_eq_true.mp h _ (List.mem_of_getElem? e1)
    cases hp
end
end DL

/-! sorted(d.values()), d a dict by tuples whose values are tuples of ints -/
namespace SCo
open L2 PySem PySem.Spec PyProof.Rows PySem.W
section
variable {prog : Program} {w : PySem.World} {A : Around} {E : Value → Shared → Prop} {s : Shared} {β : Type} {bs : List β} {enc : β → PyData} {R : Value → β → Prop}
end
/-- the view of a dict's values -/
abbrev vwO (d : Addr) : Obj := { cls := .type "dict_values", data := .fields #[.ref d] }
def ValsO (d v : Addr) : HO := .ext fun h => h.get? v = some (vwO d)
section
variable {X : Cx}
end
end SCo
namespace DL
open L2 PySem PySem.Spec PyProof.Rows SCo
open Evl (Ex ex_l ex_t sz_of)
section
variable {K : PySem.W.Frag} {T : Tb} {S : SA} {E : XK} {te : TE} {FE : DT}
end
end DL

/-! dict comprehensions whose keys are tuples -/
namespace SCo
open L2 PySem PySem.Spec PyProof.Rows PpSet
section
variable {X : Cx} {pins : List (Addr × Obj)} {σ : L2.St} {H : Hp} {s : Shared} {E : Value → Shared → Prop}
end
section
variable {X : Cx}
end
end SCo

/-! a dict of one's own by tuples, whose values are lists of one's own -/
namespace DL
open L2 PySem PySem.Spec PyProof.Rows SCo
open Evl (Ex ex_l ex_t sz_of)
section
variable {K : PySem.W.Frag} {T : Tb} {S : SA} {E : XK} {Hb H Hb1 H1 H0 : Hp} {n n1 : Nat} {te tk tv : TE} {FE : DT}
/-! ### the dict stands -/
structure Lots (K : PySem.W.Frag) (S : SA) (H0 : Hp) (i : Nat) (p : Addr) (ks : List (List Key)) (ls : List Addr) (σ : L2.St) (Hb H : Hp) (xss : List (List D)) : Prop where
  sl : σ[i]? = some (some (.ref p))
  dp : ∃ kvs, H p = some (.dT kvs) ∧ kvs.map (·.1) = ks ∧ kvs.map (·.2) = ls.map V.ref
  hb : Hb p = none
  na : p ≠ S.a
  nl : p ≠ S.l
  kn : ks.Nodup
  nd : ls.Nodup
  ln : ls.length = xss.length
  lst : ∀ (j : Nat) (l : Addr) (xs : List D), ls[j]? = some l → xss[j]? = some xs → ∃ vs, H l = some (.lst vs) ∧ Hb l = none ∧ DnA K Hb vs xs
  ap : ∀ l ∈ ls, l ≠ S.a ∧ l ≠ S.l ∧ Fresh H0 l
theorem Lots.step {i : Nat} {p : Addr} {ks : List (List Key)} {ls : List Addr} {σ : L2.St} {xss : List (List D)} (a : Stp K T S Hb H n Hb1 H1 n1) (h : Lots K S H0 i p ks ls σ Hb H xss) : Lots K S H0 i p ks ls σ Hb1 H1 xss where
  sl := h.sl
  dp := let ⟨kvs, e, r⟩ := h.dp; ⟨kvs, (a.own p _ e h.hb h.na h.nl fun _ z => by cases z).1, r⟩
  hb := let ⟨kvs, e, r⟩ := h.dp; (a.own p _ e h.hb h.na h.nl fun _ z => by cases z).2
  na := h.na
  nl := h.nl
  kn := h.kn
  nd := h.nd
  ln := h.ln
  lst := fun j l xs e1 e2 => by
    obtain ⟨vs, g1, g2, g3⟩ := h.lst j l xs e1 e2
    obtain ⟨n1, n2, _⟩ := h.ap l (List.mem_of_getElem? e1)
    obtain ⟨f1, f2⟩ := a.own l _ g1 g2 n1 n2 fun _ z => by cases z
    exact ⟨vs, f1, f2, g3.up a.ex⟩
  ap := h.ap
theorem Lots.slot {i : Nat} {p : Addr} {ks : List (List Key)} {ls : List Addr} {σ σ' : L2.St} {xss : List (List D)} (h : Lots K S H0 i p ks ls σ Hb H xss) (e : σ'[i]? = σ[i]?) : Lots K S H0 i p ks ls σ' Hb H xss :=
  ⟨by rw [e]; exact h.sl, h.dp, h.hb, h.na, h.nl, h.kn, h.nd, h.ln, h.lst, h.ap⟩
def noOwnB (ρ : List SV) : Bool := ρ.all fun s => !isOwn s
theorem noOwn_get {ρ : List SV} (h : noOwnB ρ = true) {j : Nat} {s : SV} (e : ρ[j]? = some s) : isOwn s = false := by
  have := List.all_eq_true.mp h s (List.mem_of_getElem? e)
  simpa using this
structure DEnG where
  nx : List SV → List (List D) → Nat → Prop
  rt : DQ
abbrev DTSG := DEnG → List SV → List (List D) → Nat → DX → Prop
def NxG (K : PySem.W.Frag) (T : Tb) (S : SA) (Hb H : Hp) (n : Nat) (Hc : Hp) (i : Nat) (p : Addr) (ks : List (List Key)) (ls : List Addr) (P : List SV → List (List D) → Nat → Prop) (Q : L2.St → Hp → Prop) : Prop :=
  ∀ ρ xss σ n' Hb' H', Ex Hc Hb' → Stp K T S Hb H n Hb' H' n' → Sl0 K S H Hb' H' n' ρ σ → Lots K S H i p ks ls σ Hb' H' xss → noOwnB ρ = true → P ρ xss n' → Q σ H'
theorem NxG.up {i : Nat} {p : Addr} {ks : List (List Key)} {ls : List Addr} {P : List SV → List (List D) → Nat → Prop} {Q : L2.St → Hp → Prop} {Hc Hc' : Hp} (e : Ex Hc Hc') (h : NxG K T S Hb H n Hc i p ks ls P Q) : NxG K T S Hb H n Hc' i p ks ls P Q :=
  fun ρ xss σ n' Hb' H' e' => h ρ xss σ n' Hb' H' (e.trans e')
variable {i j : Nat} {ks : List (List Key)} {t u : TS} {F G : DTSG}
theorem noOwn_set {ρ : List SV} {d : D} (no : noOwnB ρ = true) : noOwnB (ρ.set j (.d d)) = true := by
  refine List.all_eq_true.mpr fun s hs => ?_
  rcases List.mem_or_eq_of_mem_set hs with hs | rfl
  · exact List.all_eq_true.mp no s hs
  · rfl
theorem wipe_off {σ : L2.St} : ∀ {vs : List Nat}, i ∉ vs → (wipe σ vs)[i]? = σ[i]?
  | [], _ => rfl
  | v :: vs, h => by
    show ((wipe σ vs).set v none)[i]? = _
    rw [List.getElem?_set_ne fun e => h (by rw [e]; exact List.mem_cons_self)]
    exact wipe_off fun m => h (List.mem_cons_of_mem _ m)
/-- what the dict holds at its j-th key -/
theorem Lots.at {p : Addr} {ls : List Addr} {σ : L2.St} {xss : List (List D)} (h : Lots K S H0 i p ks ls σ Hb H xss) {j : Nat} {k : List Key} (e : ks[j]? = some k) : ∃ kvs l, H p = some (.dT kvs) ∧ valV kvs k = some (.ref l) ∧ ls[j]? = some l ∧ j < xss.length := by
  obtain ⟨kvs, g1, g2, g3⟩ := h.dp
  have hj : j < kvs.length := by
    have := (List.getElem?_eq_some_iff.mp e).1
    rwa [← g2, List.length_map] at this
  have hjl : j < ls.length := by
    have := congrArg List.length g3
    rw [List.length_map, List.length_map] at this
    omega
  have e1 : kvs[j].1 = k := by
    rw [← g2, List.getElem?_map, List.getElem?_eq_getElem hj] at e
    exact Option.some.inj e
  have e2 : kvs[j].2 = V.ref ls[j] := by
    have z : (kvs.map (·.2))[j]? = (ls.map V.ref)[j]? := by rw [g3]
    rw [List.getElem?_map, List.getElem?_map, List.getElem?_eq_getElem hj, List.getElem?_eq_getElem hjl] at z
    exact Option.some.inj z
  refine ⟨kvs, ls[j], g1, ?_, List.getElem?_eq_getElem hjl, by rw [← h.ln]; exact hjl⟩
  unfold valV
  have kn : (kvs.map (·.1)).Nodup := by rw [g2]; exact h.kn
  cases f : kvs.find? fun kv => decide (kv.1 = k) with
  | none => exact absurd (List.find?_eq_none.mp f kvs[j] (List.getElem_mem hj)) (by simp [e1])
  | some kv =>
    have hm := List.mem_of_find?_eq_some f
    have hk : kv.1 = k := by simpa using List.find?_some f
    obtain ⟨j2, hj2, e3⟩ := List.mem_iff_getElem.mp hm
    have : j2 = j := by
      have a1 : (kvs.map (·.1))[j2]'(by rw [List.length_map]; exact hj2) = (kvs.map (·.1))[j]'(by rw [List.length_map]; exact hj) := by rw [List.getElem_map, List.getElem_map, e3, e1, hk]
      exact (List.getElem_inj kn).mp a1
    subst this
    rw [← e3]
    exact congrArg some e2
end
end DL

/-! == and != of instances whose class has an __eq__ of its own -/
namespace OE
open PySem PySem.Spec PyProof.Rows PySem.SeqAt
section
variable {M : Model} {prog : Program} {w : PySem.World} {A : Around} {E : Value → Shared → Prop} {s : Shared} {K : PySem.W.Frag} {x C f : Addr} {ox : Obj} {od : Option Obj} {b tb : Value}
end
end OE
namespace SCo
open L2 PySem PySem.Spec PyProof.Rows
/-- what the type of the other one must be -/
def TyOth (K : PySem.W.Frag) (C : Addr) (H : Hp) (y : V) : Prop := ∃ b dy gs, y = .ref b ∧ H b = some (.ins C dy gs)
def rCmpO (K : PySem.W.Frag) (C : Addr) (sp : Sp) (g : Bool → Bool) : R2 := fun x y H Q => ∃ a dx fs, x = .ref a ∧ H a = some (.ins C dx fs) ∧ TyOth K C H y ∧ sp [x, y] H (fun v H' => ∃ r, v = .bl r ∧ Q (.bl (g r)) H') (fun _ _ _ => False)
/-- a class with an __eq__ of its own -/
def HasEq (P : Program) (w : PySem.World) (K : PySem.W.Frag) (mg : Str → Option Value) (base : Heap) (k : Nat) (C : Addr) (sp : Sp) : Prop :=
  ∃ f fd, FnOk P w K mg base CX0 k f fd ["self", "other"] sp ∧ Binds K fd ["self", "other"] [] ∧ PySem.W.findIn K (.ref C) "__eq__" = some (some (.ref f)) ∧ PySem.W.findIn K (.ref C) "__ne__" = some (some (.builtin "object.__ne__")) ∧ PySem.W.isFn K (.ref f) = true ∧ PySem.W.mroIn K C (.type "object") = some true
section
variable {X : Cx} {k : Nat} {C : Addr} {sp : Sp}
theorem eq_run (h : HasEq X.prog X.w X.K X.mg X.base k C sp) {A : Around} (hr : Room k A) (hfr : A.frames = X.A.frames) {pins : List (Addr × Obj)} {s : Shared} {σ : L2.St} {H : Hp} {x y : V} {v u : Value} {Q : VK} (I : Inv X pins σ H s) (rx : RelV x v) (ry : RelV y u)
    {f : Addr} {fd : FuncData} (FO : FnOk X.prog X.w X.K X.mg X.base CX0 k f fd ["self", "other"] sp) (hb : Binds X.K fd ["self", "other"] []) {g : Bool → Bool} (hsp : sp [x, y] H (fun z H' => ∃ r, z = .bl r ∧ Q (.bl (g r)) H') (fun _ _ _ => False)) :
    wpAny (model X.prog X.w) A (call (.ref f) [v, u]) (fun z s' => ∃ r, z = .bool r ∧ ∃ H', Inv X pins σ H' s' ∧ Q (.bl (g r)) H') X.xe s := by
  have e0 : Env0 X.prog X.w X.K X.mg X.base A X.stack s H := by
    have e := I.env0
    exact ⟨by rw [hfr]; exact e.frames, e.mod, e.bs, e.bsz, e.funs, e.frf, e.hok, e.bare⟩
  have bd := hb s [v, u] I.kIn rfl
  refine wpAny_call (codeAny_mono (FO.run A X.stack s H ⟨[v, u], []⟩ [v, u] [x, y] _ _ hr e0 (by simpa using bd) (.cons rx (.cons ry .nil)) hsp) fun r s' hq => ?_)
  cases r with
  | error e => exact (show False from hq).elim
  | ok fl =>
    cases fl with
    | ret z =>
      obtain ⟨z', H', I', rz, b, rfl, q⟩ := I.after hq
      cases rz
      exact ⟨b, rfl, H', I', q⟩
    | next => exact (show False from hq).elim
    | brk => exact (show False from hq).elim
    | cont => exact (show False from hq).elim
theorem op_eqOwn (h : HasEq X.prog X.w X.K X.mg X.base k C sp) (hr : Room (k + 1) X.A) : OpR X (compareOp .Eq) (rCmpO X.K C sp id) := by
  intro pins s σ H x y v u Q I rx ry hq
  obtain ⟨a, dx, fs, rfl, ha, ⟨b, dy, gs, rfl, hb'⟩, hsp⟩ := hq
  cases rx
  cases ry
  obtain ⟨f, fd, FO, hb, fe, fn, hf, hm⟩ := id h
  obtain ⟨mA, J, _⟩ := ins_get I.hok ha
  obtain ⟨mB, J', _⟩ := ins_get I.hok hb'
  obtain ⟨od, J, _⟩ := J.look
  obtain ⟨od', J', _⟩ := J'.look
  obtain ⟨m, hF⟩ := I.fr
  show wpAny (model X.prog X.w) X.A (richCompare .Eq (.ref a) (.ref b)) (EP X pins σ Q) X.xe s
  refine PySem.W.cmp_K (op := .Eq) (tb := .ref C) hr.units0 hF I.ok.mod.kin J J'.type (by simp [PySem.W.notFirst]) fe hf ?_
  refine wpAny_mono (eq_run (g := id) h (hr.mono (by omega)) rfl I (x := .ref a) (y := .ref b) rfl rfl FO hb hsp) (fun z s' hz => ?_) fun _ _ e => e
  obtain ⟨r, rfl, H', I', q⟩ := hz
  exact ⟨.bl r, H', I', rfl, q⟩
end
end SCo
namespace DL
open L2 PySem PySem.Spec PyProof.Rows SCo
open Evl (Ex ex_l ex_t sz_of)
section
variable {K : PySem.W.Frag} {T : Tb} {S : SA} {E : XK} {ta tb : TE} {F G : DT}
def xCmpO (C : Addr) (DS : DSp0) (g : Bool → Bool) (F G : DT) : DT := fun ρ n P XP => F ρ n (fun a n1 => G ρ n1 (fun b n2 => (∃ ns ds, a = .ins C ns ds) ∧ (∃ ns ds, b = .ins C ns ds) ∧ DS [.d a, .d b] n2 (fun d n3 => ∃ r, d = .bl r ∧ P (.bl (g r)) n3)) XP) XP
theorem rd_cmpO {C : Addr} {DS : DSp0} {g : Bool → Bool} (h1 : DL.Rd K T S E ta F) (h2 : DL.Rd K T S E tb G) : DL.Rd K T S E (tOp (rCmpO K C (sp0 K T DS) g) ta tb) (xCmpO C DS g F G) := fun σ ρ Hb H n P XP Q w sl h q x => by
  refine h1 σ ρ Hb H n _ XP _ w sl h (fun a v n1 Hb1 H1 s hd p => ?_) x
  refine h2 σ ρ Hb1 H1 n1 _ XP _ s.wd (sl.step s) p (fun b u n2 Hb2 H2 s2 he p2 => ?_) (x.step s)
  obtain ⟨⟨na, da, rfl⟩, ⟨nb, db, rfl⟩, p3⟩ := p2
  have hd2 := hd.up s2.ex
  cases id hd2 with
  | @ins a _ dx fs _ _ hc e1 e2 e3 =>
    cases id he with
    | @ins b _ dy gs _ _ hc' f1 f2 f3 =>
      refine ⟨a, dx, fs, rfl, s2.wd.ex _ _ e1, ⟨b, dy, gs, rfl, s2.wd.ex _ _ f1⟩, S, Hb2, n2, _, _, xF, s2.wd, .cons (s := .d _) ⟨_, rfl, hd2⟩ (.cons (s := .d _) ⟨_, rfl, he⟩ .nil), ⟨rfl, p3⟩, fun d z n3 Hb3 H3 s3 hz pz => ?_, .none⟩
      obtain ⟨r, rfl, pz⟩ := pz
      cases hz
      exact ⟨r, rfl, q _ _ n3 Hb3 H3 ((s.trans s2).trans s3) (.bl _) pz⟩
end
def eqOB (K : PySem.W.Frag) (C f : Addr) : Bool := He.eqO (PySem.W.findIn K (.ref C) "__eq__") (some (some (.ref f))) && (He.eqO (PySem.W.findIn K (.ref C) "__ne__") (some (some (.builtin "object.__ne__"))) && (PySem.W.isFn K (.ref f) && eqB (PySem.W.mroIn K C (.type "object")) (some true)))
structure EqO (K : PySem.W.Frag) (C f : Addr) : Prop where
  e : PySem.W.findIn K (.ref C) "__eq__" = some (some (.ref f))
  n : PySem.W.findIn K (.ref C) "__ne__" = some (some (.builtin "object.__ne__"))
  f : PySem.W.isFn K (.ref f) = true
  m : PySem.W.mroIn K C (.type "object") = some true
theorem eqOB_ok {K : PySem.W.Frag} {C f : Addr} (h : eqOB K C f = true) : EqO K C f := by
  obtain ⟨h1, h⟩ := b2 h
  obtain ⟨h2, h⟩ := b2 h
  obtain ⟨h3, h4⟩ := b2 h
  exact ⟨He.eqO_ok h1, He.eqO_ok h2, h3, eqB_ok h4⟩
/-- an __eq__ as it stands -/
def EqAt (K : PySem.W.Frag) (qual : Str) (C : Addr) (st : Stmt) : Prop := ∃ f fd, Fun K "__eq__" qual st f fd ∧ EqO K C f ∧ Binds K fd ["self", "other"] []
end DL

/-! _law_told: what work() made and what was caught, as two values -/
namespace DL
open L2 PySem PySem.Spec PyProof.Rows
open Evl (Ex ex_l ex_t sz_of)
section
variable {X : Cx} {pins : List (Addr × Obj)} {σ : L2.St} {H : Hp} {s : Shared}
end
section
variable {X : Cx} {T : Tb}
end
section
variable {X : Cx}
end
section
variable {K : PySem.W.Frag} {T : Tb} {S : SA} {E : XK}
end
section
variable {K : PySem.W.Frag}
/-- y not in x, x a list of ints -/
def notInLI : D → D → (D → Prop) → Prop := fun a b k => ∃ (i : Int) (ns : List Int), a = .int i ∧ b = .lst (ns.map .int) ∧ k (.bl (!ns.any (· == i)))
theorem o2_notInLI : Op2 K (rNotInD K) notInLI := by
  intro T S x y a b Hb H n P Q w hx hy h q
  obtain ⟨i, ns, rfl, rfl, h⟩ := h
  refine ⟨.int i, ns.map .int, Dn.toDp _ (w.dn hx) rfl, Dn.toDp _ (w.dn hy) (toPs_intsL ns), rfl, shaped_ints ns, ?_⟩
  rw [any_eqv]
  exact q.now w (.bl _) h
end
end DL

/-! xs[a], xs[b] = e, f of a list of one's own; in, not in, index of a list of anything written -/
namespace DL
open L2 PySem PySem.Spec PyProof.Rows SCo
open Evl (Ex ex_l ex_t sz_of)
section
variable {K : PySem.W.Frag} {T : Tb} {S : SA} {E : XK} {te te2 : TE} {FE FE2 : DT}
end
end DL

/-! == and != of an instance whose class has its own __eq__ with anything; a list of one's own by + -/
namespace SCo
open L2 PySem PySem.Spec PyProof.Rows
def rCmpA (K : PySem.W.Frag) (C : Addr) (sp : Sp) (g : Bool → Bool) : R2 := fun x y H Q => ∃ a dx fs t, x = .ref a ∧ H a = some (.ins C dx fs) ∧ TyX K H y t ∧ PySem.W.notFirst K C t = true ∧ sp [x, y] H (fun v H' => ∃ r, v = .bl r ∧ Q (.bl (g r)) H') (fun _ _ _ => False)
section
variable {X : Cx} {k : Nat} {C : Addr} {sp : Sp}
theorem op_eqAny (h : HasEq X.prog X.w X.K X.mg X.base k C sp) (hr : Room (k + 1) X.A) : OpR X (compareOp .Eq) (rCmpA X.K C sp id) := by
  intro pins s σ H x y v u Q I rx ry hq
  obtain ⟨a, dx, fs, t, rfl, ha, ty, nf, hsp⟩ := hq
  cases rx
  obtain ⟨f, fd, FO, hb, fe, fn, hf, hm⟩ := id h
  obtain ⟨mA, J, _⟩ := ins_get I.hok ha
  obtain ⟨od, J, _⟩ := J.look
  obtain ⟨hP, Z, hp, _⟩ := kit_of I ry ty
  obtain ⟨m, hF⟩ := I.fr
  show wpAny (model X.prog X.w) X.A (richCompare .Eq (.ref a) u) (EP X pins σ Q) X.xe s
  refine PySem.W.cmp_K (op := .Eq) (tb := t) hr.units0 hF I.ok.mod.kin J (Z.ty _ _ I.kIn hp) nf fe hf ?_
  refine wpAny_mono (eq_run (g := id) h (hr.mono (by omega)) rfl I (x := .ref a) rfl ry FO hb hsp) (fun z s' hz => ?_) fun _ _ e => e
  obtain ⟨r, rfl, H', I', q⟩ := hz
  exact ⟨.bl r, H', I', rfl, q⟩
end
end SCo
namespace DL
open L2 PySem PySem.Spec PyProof.Rows SCo
open Evl (Ex ex_l ex_t sz_of)
section
variable {K : PySem.W.Frag} {T : Tb} {S : SA} {E : XK} {ta tb : TE} {F G : DT}
def plainD : D → Bool
  | .exc _ _ _ => false
  | .fnv _ => false
  | .dit _ _ => false
  | .lam _ => false
  | _ => true
def xCmpA (K : PySem.W.Frag) (C : Addr) (DS : DSp0) (g : Bool → Bool) (F G : DT) : DT := fun ρ n P XP => F ρ n (fun a n1 => G ρ n1 (fun b n2 => (∃ ns ds, a = .ins C ns ds) ∧ plainD b = true ∧ PySem.W.notFirst K C (tyD b) = true ∧ DS [.d a, .d b] n2 (fun d n3 => ∃ r, d = .bl r ∧ P (.bl (g r)) n3)) XP) XP
theorem rd_cmpA {C : Addr} {DS : DSp0} {g : Bool → Bool} (h1 : DL.Rd K T S E ta F) (h2 : DL.Rd K T S E tb G) : DL.Rd K T S E (tOp (rCmpA K C (sp0 K T DS) g) ta tb) (xCmpA K C DS g F G) := fun σ ρ Hb H n P XP Q w sl h q x => by
  refine h1 σ ρ Hb H n _ XP _ w sl h (fun a v n1 Hb1 H1 s hd p => ?_) x
  refine h2 σ ρ Hb1 H1 n1 _ XP _ s.wd (sl.step s) p (fun b u n2 Hb2 H2 s2 he p2 => ?_) (x.step s)
  obtain ⟨⟨na, da, rfl⟩, hp, nf, p3⟩ := p2
  have hd2 := hd.up s2.ex
  have ty : TyX K H2 u (tyD b) := TyX.of (s2.wd.dn he) (fun _ _ _ z => by rw [z] at hp; cases hp) (fun _ z => by rw [z] at hp; cases hp) (fun _ _ z => by rw [z] at hp; cases hp) (fun _ z => by rw [z] at hp; cases hp)
  cases id hd2 with
  | @ins a _ dx fs _ _ hc e1 e2 e3 =>
    refine ⟨a, dx, fs, tyD b, rfl, s2.wd.ex _ _ e1, ty, nf, S, Hb2, n2, _, _, xF, s2.wd, .cons (s := .d _) ⟨_, rfl, hd2⟩ (.cons (s := .d _) ⟨_, rfl, he⟩ .nil), ⟨rfl, p3⟩, fun d z n3 Hb3 H3 s3 hz pz => ?_, .none⟩
    obtain ⟨r, rfl, pz⟩ := pz
    cases hz
    exact ⟨r, rfl, q _ _ n3 Hb3 H3 ((s.trans s2).trans s3) (.bl _) pz⟩
def nfB (K : PySem.W.Frag) (C : Addr) : Bool := (["NoneType", "bool", "int", "str", "list", "tuple", "dict"] : List String).all fun t => PySem.W.notFirst K C (.type t)
theorem nfB_ok {K : PySem.W.Frag} {C : Addr} (h : nfB K C = true) : ∀ t ∈ (["NoneType", "bool", "int", "str", "list", "tuple", "dict"] : List String), PySem.W.notFirst K C (.type t) = true := List.all_eq_true.mp h
end
end DL

namespace Lw
open L2 PySem DL
def topS (i : Nat) : Stmt := PySem.Challenge.pw_oncefound_k01_what_a_table_tells.main.body.getD i (.Pass ⟨0, 0, 0, 0⟩)
/-- where the classes of the program stand -/
structure Cs where
  BadCustom : Addr
  BadKinds : Addr
  BadMatter : Addr
  BadRows : Addr
  BadTable : Addr
  FoundError : Addr
  Table : Addr
  law_no_custom : Addr
  law_no_matter : Addr
  law_no_table : Addr
structure Tk where
  MOST_KIND : Tok
  MOST_MATTERS : Tok
  MOST_VALLEYS : Tok
structure Txt (K : PySem.W.Frag) (mg : Str → Option Value) (cs : Cs) (tk : Tk) : Prop where
  n_abs : mg "abs" = none
  n_all : mg "all" = none
  n_bool : mg "bool" = none
  n_enumerate : mg "enumerate" = none
  n_int : mg "int" = none
  n_isinstance : mg "isinstance" = none
  n_len : mg "len" = none
  n_list : mg "list" = none
  n_min : mg "min" = none
  n_range : mg "range" = none
  n_repr : mg "repr" = none
  n_set : mg "set" = none
  n_sorted : mg "sorted" = none
  n_tuple : mg "tuple" = none
  n_zip : mg "zip" = none
  k_MOST_KIND : True ∧ mg "MOST_KIND" = some (.int 6 tk.MOST_KIND)
  k_MOST_MATTERS : True ∧ mg "MOST_MATTERS" = some (.int 8 tk.MOST_MATTERS)
  k_MOST_VALLEYS : True ∧ mg "MOST_VALLEYS" = some (.int 12 tk.MOST_VALLEYS)
  d__law_no_custom : mg "_law_no_custom" = some (.ref cs.law_no_custom)
  d__law_no_matter : mg "_law_no_matter" = some (.ref cs.law_no_matter)
  d__law_no_table : mg "_law_no_table" = some (.ref cs.law_no_table)
  g_BadCustom : mg "BadCustom" = some (.ref cs.BadCustom)
  g_BadKinds : mg "BadKinds" = some (.ref cs.BadKinds)
  g_BadMatter : mg "BadMatter" = some (.ref cs.BadMatter)
  g_BadRows : mg "BadRows" = some (.ref cs.BadRows)
  g_BadTable : mg "BadTable" = some (.ref cs.BadTable)
  g_FoundError : mg "FoundError" = some (.ref cs.FoundError)
  g_Table : mg "Table" = some (.ref cs.Table)
  x_BadCustom : PySem.W.excIn K cs.BadCustom [.type "ValueError", .type "Exception", .type "BaseException", .type "object"] "ValueError.__new__" = true
  e_BadCustom : PySem.W.keepIn K (.ref cs.BadCustom) = true
  b_BadCustom : PySem.W.subIn K (.ref cs.BadCustom) (.type "BaseException") = some true
  t_BadCustom : PySem.W.typeIn K (.ref cs.BadCustom) = some (.type "type")
  r_BadCustom : ErrC K cs.FoundError cs.BadCustom
  i_BadCustom : PySem.W.kitOne K (.ref cs.BadCustom) (.ref cs.BadCustom) = some true
  v_BadCustom : PySem.W.kitOne K (.ref cs.BadCustom) (.type "ValueError") = some true
  x_BadKinds : PySem.W.excIn K cs.BadKinds [.type "ValueError", .type "Exception", .type "BaseException", .type "object"] "ValueError.__new__" = true
  e_BadKinds : PySem.W.keepIn K (.ref cs.BadKinds) = true
  b_BadKinds : PySem.W.subIn K (.ref cs.BadKinds) (.type "BaseException") = some true
  t_BadKinds : PySem.W.typeIn K (.ref cs.BadKinds) = some (.type "type")
  r_BadKinds : ErrC K cs.FoundError cs.BadKinds
  i_BadKinds : PySem.W.kitOne K (.ref cs.BadKinds) (.ref cs.BadKinds) = some true
  v_BadKinds : PySem.W.kitOne K (.ref cs.BadKinds) (.type "ValueError") = some true
  x_BadMatter : PySem.W.excIn K cs.BadMatter [.type "ValueError", .type "Exception", .type "BaseException", .type "object"] "ValueError.__new__" = true
  e_BadMatter : PySem.W.keepIn K (.ref cs.BadMatter) = true
  b_BadMatter : PySem.W.subIn K (.ref cs.BadMatter) (.type "BaseException") = some true
  t_BadMatter : PySem.W.typeIn K (.ref cs.BadMatter) = some (.type "type")
  r_BadMatter : ErrC K cs.FoundError cs.BadMatter
  i_BadMatter : PySem.W.kitOne K (.ref cs.BadMatter) (.ref cs.BadMatter) = some true
  v_BadMatter : PySem.W.kitOne K (.ref cs.BadMatter) (.type "ValueError") = some true
  x_BadRows : PySem.W.excIn K cs.BadRows [.type "ValueError", .type "Exception", .type "BaseException", .type "object"] "ValueError.__new__" = true
  e_BadRows : PySem.W.keepIn K (.ref cs.BadRows) = true
  b_BadRows : PySem.W.subIn K (.ref cs.BadRows) (.type "BaseException") = some true
  t_BadRows : PySem.W.typeIn K (.ref cs.BadRows) = some (.type "type")
  r_BadRows : ErrC K cs.FoundError cs.BadRows
  i_BadRows : PySem.W.kitOne K (.ref cs.BadRows) (.ref cs.BadRows) = some true
  v_BadRows : PySem.W.kitOne K (.ref cs.BadRows) (.type "ValueError") = some true
  x_BadTable : PySem.W.excIn K cs.BadTable [.type "ValueError", .type "Exception", .type "BaseException", .type "object"] "ValueError.__new__" = true
  e_BadTable : PySem.W.keepIn K (.ref cs.BadTable) = true
  b_BadTable : PySem.W.subIn K (.ref cs.BadTable) (.type "BaseException") = some true
  t_BadTable : PySem.W.typeIn K (.ref cs.BadTable) = some (.type "type")
  r_BadTable : ErrC K cs.FoundError cs.BadTable
  i_BadTable : PySem.W.kitOne K (.ref cs.BadTable) (.ref cs.BadTable) = some true
  v_BadTable : PySem.W.kitOne K (.ref cs.BadTable) (.type "ValueError") = some true
  ic_Table : InC K cs.Table
  no_Table : ∀ t ∈ ["NoneType", "bool", "int", "str", "list", "tuple", "dict"], PySem.W.kitOne K (.type t) (.ref cs.Table) = some false
  nf_Table : ∀ t ∈ (["NoneType", "bool", "int", "str", "list", "tuple", "dict"] : List String), PySem.W.notFirst K cs.Table (.type t) = true
  i_Table : PySem.W.kitOne K (.ref cs.Table) (.ref cs.Table) = some true
  na_Table_kinds : NoAttr K cs.Table "kinds"
  na_Table_rows : NoAttr K cs.Table "rows"
end Lw

namespace Lw
open L2 PySem DL
open He (ga ma fAd cT)
abbrev s_law_caught : Stmt := topS 32
abbrev s_used : Stmt := topS 24
abbrev s_is_number : Stmt := topS 8
abbrev s_is_between : Stmt := topS 9
abbrev s_is_kind : Stmt := topS 15
abbrev s_are_kinds : Stmt := topS 16
abbrev s_is_cell : Stmt := topS 17
abbrev s_is_row_for : Stmt := topS 18
abbrev s_first_unread : Stmt := topS 20
abbrev s_are_rows : Stmt := topS 19
abbrev s_law_put : Stmt := topS 33
abbrev s_law_draw : Stmt := topS 30
abbrev s_law_pick : Stmt := topS 31
abbrev s_law_bad_table : Stmt := topS 39
abbrev s_law_cell : Stmt := topS 41
abbrev s_Table_init : Stmt := inClass (topS 14) 0
abbrev s_check_table : Stmt := topS 21
abbrev s_law_made : Stmt := topS 35
abbrev s_law_no_table : Stmt := topS 43
abbrev s_law_wide : Stmt := topS 42
abbrev s_law_begun : Stmt := topS 29
abbrev s_law_refused : Stmt := topS 34
abbrev s_law_no_matter : Stmt := topS 44
abbrev s_law_no_custom : Stmt := topS 45
abbrev s_law_bad_number : Stmt := topS 40
abbrev s_check_matter : Stmt := topS 22
abbrev s_is_full : Stmt := topS 23
abbrev s_sorts : Stmt := topS 27
abbrev s_law_sorts : Stmt := topS 46
abbrev s_law_column : Stmt := topS 36
abbrev s_law_used : Stmt := topS 37
abbrev s_is_used : Stmt := topS 25
abbrev s_having : Stmt := topS 26
abbrev s_law_having : Stmt := topS 38
abbrev s_Table_eq : Stmt := inClass (topS 14) 1
abbrev s_law_told : Stmt := topS 47
abbrev s_law_equal : Stmt := topS 48
abbrev s_law : Stmt := topS 49
def dfs : List He.DefD := [
  ⟨("is_number", none), "is_number", "is_number", defArgs s_is_number, defBody s_is_number, defScope s_is_number, [], []⟩,
  ⟨("is_between", none), "is_between", "is_between", defArgs s_is_between, defBody s_is_between, defScope s_is_between, [], []⟩,
  ⟨("is_kind", none), "is_kind", "is_kind", defArgs s_is_kind, defBody s_is_kind, defScope s_is_kind, [], []⟩,
  ⟨("_are_kinds", none), "_are_kinds", "_are_kinds", defArgs s_are_kinds, defBody s_are_kinds, defScope s_are_kinds, [], []⟩,
  ⟨("is_cell", none), "is_cell", "is_cell", defArgs s_is_cell, defBody s_is_cell, defScope s_is_cell, [], []⟩,
  ⟨("_is_row_for", none), "_is_row_for", "_is_row_for", defArgs s_is_row_for, defBody s_is_row_for, defScope s_is_row_for, [], []⟩,
  ⟨("first_unread", none), "first_unread", "first_unread", defArgs s_first_unread, defBody s_first_unread, defScope s_first_unread, [], []⟩,
  ⟨("_are_rows", none), "_are_rows", "_are_rows", defArgs s_are_rows, defBody s_are_rows, defScope s_are_rows, [], []⟩,
  ⟨("_law_put", none), "_law_put", "_law_put", defArgs s_law_put, defBody s_law_put, defScope s_law_put, [], []⟩,
  ⟨("_law_draw", none), "_law_draw", "_law_draw", defArgs s_law_draw, defBody s_law_draw, defScope s_law_draw, [], []⟩,
  ⟨("_law_pick", none), "_law_pick", "_law_pick", defArgs s_law_pick, defBody s_law_pick, defScope s_law_pick, [], []⟩,
  ⟨("_law_bad_table", none), "_law_bad_table", "_law_bad_table", defArgs s_law_bad_table, defBody s_law_bad_table, defScope s_law_bad_table, [], []⟩,
  ⟨("_law_cell", none), "_law_cell", "_law_cell", defArgs s_law_cell, defBody s_law_cell, defScope s_law_cell, [], []⟩,
  ⟨("Table", some "__init__"), "__init__", "Table.__init__", defArgs s_Table_init, defBody s_Table_init, defScope s_Table_init, [], []⟩,
  ⟨("check_table", none), "check_table", "check_table", defArgs s_check_table, defBody s_check_table, defScope s_check_table, [], []⟩,
  ⟨("_law_made", none), "_law_made", "_law_made", defArgs s_law_made, defBody s_law_made, defScope s_law_made, [], []⟩,
  ⟨("_law_no_table", none), "_law_no_table", "_law_no_table", defArgs s_law_no_table, defBody s_law_no_table, defScope s_law_no_table, [], []⟩,
  ⟨("_law_wide", none), "_law_wide", "_law_wide", defArgs s_law_wide, defBody s_law_wide, defScope s_law_wide, [], []⟩,
  ⟨("_law_begun", none), "_law_begun", "_law_begun", defArgs s_law_begun, defBody s_law_begun, defScope s_law_begun, [], []⟩,
  ⟨("_law_refused", none), "_law_refused", "_law_refused", defArgs s_law_refused, defBody s_law_refused, defScope s_law_refused, [], []⟩,
  ⟨("_law_no_matter", none), "_law_no_matter", "_law_no_matter", defArgs s_law_no_matter, defBody s_law_no_matter, defScope s_law_no_matter, [], []⟩,
  ⟨("_law_no_custom", none), "_law_no_custom", "_law_no_custom", defArgs s_law_no_custom, defBody s_law_no_custom, defScope s_law_no_custom, [], []⟩,
  ⟨("_law_bad_number", none), "_law_bad_number", "_law_bad_number", defArgs s_law_bad_number, defBody s_law_bad_number, defScope s_law_bad_number, [], []⟩,
  ⟨("check_matter", none), "check_matter", "check_matter", defArgs s_check_matter, defBody s_check_matter, defScope s_check_matter, [], []⟩,
  ⟨("is_full", none), "is_full", "is_full", defArgs s_is_full, defBody s_is_full, defScope s_is_full, [], []⟩,
  ⟨("sorts", none), "sorts", "sorts", defArgs s_sorts, defBody s_sorts, defScope s_sorts, [], []⟩,
  ⟨("_law_sorts", none), "_law_sorts", "_law_sorts", defArgs s_law_sorts, defBody s_law_sorts, defScope s_law_sorts, [], []⟩,
  ⟨("_law_column", none), "_law_column", "_law_column", defArgs s_law_column, defBody s_law_column, defScope s_law_column, [], []⟩,
  ⟨("_law_used", none), "_law_used", "_law_used", defArgs s_law_used, defBody s_law_used, defScope s_law_used, [], []⟩,
  ⟨("used", none), "used", "used", defArgs s_used, defBody s_used, defScope s_used, [], []⟩,
  ⟨("is_used", none), "is_used", "is_used", defArgs s_is_used, defBody s_is_used, defScope s_is_used, [], []⟩,
  ⟨("having", none), "having", "having", defArgs s_having, defBody s_having, defScope s_having, [], []⟩,
  ⟨("_law_having", none), "_law_having", "_law_having", defArgs s_law_having, defBody s_law_having, defScope s_law_having, [], []⟩,
  ⟨("Table", some "__eq__"), "__eq__", "Table.__eq__", defArgs s_Table_eq, defBody s_Table_eq, defScope s_Table_eq, [], []⟩,
  ⟨("_law_told", none), "_law_told", "_law_told", defArgs s_law_told, defBody s_law_told, defScope s_law_told, [], []⟩,
  ⟨("_law_equal", none), "_law_equal", "_law_equal", defArgs s_law_equal, defBody s_law_equal, defScope s_law_equal, [], []⟩,
  ⟨("law", none), "law", "law", defArgs s_law, defBody s_law, defScope s_law, [], []⟩,
  ⟨("_law_caught", none), "_law_caught", "_law_caught", defArgs s_law_caught, defBody s_law_caught, defScope s_law_caught, [], []⟩]
def fcs : List He.Fa := [.free "abs", .free "all", .free "bool", .free "enumerate", .free "int", .free "isinstance", .free "len", .free "list", .free "min", .free "range", .free "repr", .free "set", .free "sorted", .free "tuple", .free "zip", .int "MOST_KIND" 6, .int "MOST_MATTERS" 8, .int "MOST_VALLEYS" 12, .glo "BadCustom", .glo "BadKinds", .glo "BadMatter", .glo "BadRows", .glo "BadTable", .glo "FoundError", .glo "Table", .glo "is_number", .glo "is_between", .glo "is_kind", .glo "_are_kinds", .glo "is_cell", .glo "_is_row_for", .glo "first_unread", .glo "_are_rows", .glo "_law_put", .glo "_law_draw", .glo "_law_pick", .glo "_law_bad_table", .glo "_law_cell", .glo "check_table", .glo "_law_made", .glo "_law_no_table", .glo "_law_wide", .glo "_law_begun", .glo "_law_refused", .glo "_law_no_matter", .glo "_law_no_custom", .glo "_law_bad_number", .glo "check_matter", .glo "is_full", .glo "sorts", .glo "_law_sorts", .glo "_law_column", .glo "_law_used", .glo "used", .glo "is_used", .glo "having", .glo "_law_having", .glo "_law_told", .glo "_law_equal", .glo "law", .glo "_law_caught"]
def tfs : List (He.Defn × Str) := [(("_law_refused", none), "_law_refused.<locals>.<lambda>"), (("_law_told", none), "_law_told.<locals>.<lambda>"), (("law", none), "law.<locals>.<lambda>")]
def csK (K : PySem.W.Frag) : Cs := ⟨ga K "BadCustom", ga K "BadKinds", ga K "BadMatter", ga K "BadRows", ga K "BadTable", ga K "FoundError", ga K "Table", ga K "_law_no_custom", ga K "_law_no_matter", ga K "_law_no_table"⟩
def exs (K : PySem.W.Frag) : Bool := errFB K (ga K "FoundError") (ga K "BadCustom") && (errFB K (ga K "FoundError") (ga K "BadKinds") && (errFB K (ga K "FoundError") (ga K "BadMatter") && (errFB K (ga K "FoundError") (ga K "BadRows") && (errFB K (ga K "FoundError") (ga K "BadTable") && (clsFB K (ga K "Table") ["kinds", "rows"] && (mkB K (ga K "Table") && (eqOB K (ga K "Table") (fAd K ("Table", some "__eq__")) && (nfB K (ga K "Table") && (apartB K tfs)))))))))
def loose0 : List PySem.Str := ["FoundError", "BadCustom", "BadKinds", "BadMatter", "BadRows", "BadTable", "is_number", "is_between", "MOST_MATTERS", "MOST_KIND", "MOST_VALLEYS", "Table", "is_kind", "_are_kinds", "is_cell", "_is_row_for", "_are_rows", "first_unread", "check_table", "check_matter", "is_full", "used", "is_used", "having", "sorts", "_law_begun", "_law_draw", "_law_pick", "_law_caught", "_law_put"]
def loose1 : List PySem.Str := ["_law_refused", "_law_made", "_law_column", "_law_used", "_law_having", "_law_bad_table", "_law_bad_number", "_law_cell", "_law_wide", "_law_no_table", "_law_no_matter", "_law_no_custom", "_law_sorts", "_law_told", "_law_equal"]
abbrev loose : List PySem.Str := loose0 ++ loose1
abbrev Rw : PySem.W.OpenRow := PySem.W.OpenLaw.row PySem.Challenge.rw_oncefound_k01_what_a_table_tells
abbrev tfd : List He.Defn := tfs.map (·.1)
abbrev hk : PySem.W.Hook := He.hookX 5 fcs dfs [] tfd exs
def ob (s : PySem.W.SharedT) : He.AlX := He.obsX 5 fcs dfs [] tfd exs (HandSHeadRun.getT s)
theorem ob_eq (s : PySem.W.SharedT) : ob s = hk.obs s.abs := He.obsX_eq (HandSHeadRun.getT_eq s)
set_option maxHeartbeats 0 in
theorem run (w : PySem.World) : HandSHeadRun.RunEq Rw (PySem.W.view Rw.prog [49]) hk ob 6000 loose w := by
  intro os
  kernel_rfl

end Lw
/-! lambdas as data, and their call -/
namespace DL
open L2 PySem PySem.Spec PyProof.Rows
open Evl (Ex ex_l ex_t sz_of)
section
variable {P : Program} {w : PySem.World} {mg : Str → Option Value} {base : Heap} {K : PySem.W.Frag} {T : Tb} {S : SA} {E : XK} {Hb H Hb1 H1 : Hp} {n n1 k k2 : Nat} {te : TE} {FE : DT} {ta : TA} {GA : DTA}
end
end DL

/-! a walk over a list or a tuple -/
namespace RZ
open PySem PySem.Spec PyProof.Rows L2
end RZ
namespace DL
open L2 PySem PySem.Spec PyProof.Rows
open Evl (Ex ex_l ex_t sz_of)
section
variable {K : PySem.W.Frag} {T : Tb} {S : SA} {E : XK}
end
end DL

/-! all choices of k items, in order, and how one follows the other -/
namespace DL
/-- all lists of k items of a list, in their order -/
def combsL {α : Type} : Nat → List α → List (List α)
  | 0, _ => [[]]
  | _ + 1, [] => []
  | k + 1, x :: xs => (combsL k xs).map (x :: ·) ++ combsL (k + 1) xs
theorem combsL_len {α : Type} : ∀ {k : Nat} {xs c : List α}, c ∈ combsL k xs → c.length = k
  | 0, xs, c, h => by
    simp [combsL] at h
    rw [h]
    rfl
  | _ + 1, [], c, h => by simp [combsL] at h
  | k + 1, x :: xs, c, h => by
    rw [combsL, List.mem_append] at h
    rcases h with h | h
    · obtain ⟨d, hd, rfl⟩ := List.mem_map.mp h
      rw [List.length_cons, combsL_len hd]
    · exact combsL_len h
/-- a choice behind another one -/
def nextC (n : Nat) : List Nat → Option (List Nat)
  | [] => none
  | i :: is => match nextC n is with
    | some js => some (i :: js)
    | none => if i ≠ n - (is.length + 1) then some (List.range' (i + 1) (is.length + 1)) else none
theorem combs_range : ∀ (t m r : Nat), (∀ (k : Nat) (is : List Nat), (combsL r (List.range' m t))[k]? = some is → (∀ i ∈ is, m ≤ i ∧ i < m + t) ∧ r ≤ t ∧ (combsL r (List.range' m t))[k + 1]? = nextC (m + t) is) ∧
    (combsL r (List.range' m t))[0]? = if r ≤ t then some (List.range' m r) else none
  | t, m, 0 => by
    refine ⟨fun k is h => ?_, by simp [combsL]⟩
    rw [combsL] at h ⊢
    cases k with
    | zero =>
      simp at h
      subst h
      exact ⟨by simp, Nat.zero_le _, rfl⟩
    | succ k => simp at h
  | 0, m, r + 1 => by simp [combsL]
  | t + 1, m, r + 1 => by
    obtain ⟨a1, a0⟩ := combs_range t (m + 1) r
    obtain ⟨b1, b0⟩ := combs_range t (m + 1) (r + 1)
    have e : combsL (r + 1) (List.range' m (t + 1)) = (combsL r (List.range' (m + 1) t)).map (m :: ·) ++ combsL (r + 1) (List.range' (m + 1) t) := by
      rw [List.range'_succ, combsL]
    generalize combsL (r + 1) (List.range' m (t + 1)) = L at e ⊢
    subst e
    have al : ∀ c ∈ combsL r (List.range' (m + 1) t), c.length = r := fun c hc => combsL_len hc
    generalize combsL r (List.range' (m + 1) t) = A at a1 a0 al ⊢
    generalize combsL (r + 1) (List.range' (m + 1) t) = B at b1 b0 ⊢
    have emt : m + 1 + t = m + (t + 1) := by omega
    rw [emt] at a1 b1
    refine ⟨fun k is h => ?_, ?_⟩
    · rcases Nat.lt_or_ge k A.length with hk | hk
      · rw [List.getElem?_append_left (by rw [List.length_map]; exact hk), List.getElem?_map] at h
        obtain ⟨js, hj, rfl⟩ := Option.map_eq_some_iff.mp h
        obtain ⟨c1, c2, c3⟩ := a1 k js hj
        have hl : A[k]? = some js := hj
        refine ⟨fun i hi => ?_, by omega, ?_⟩
        · rcases List.mem_cons.mp hi with rfl | hi
          · omega
          · have := c1 i hi
            omega
        · rw [nextC]
          cases hn : nextC (m + (t + 1)) js with
          | some js' =>
            rw [hn] at c3
            have := (List.getElem?_eq_some_iff.mp c3).1
            rw [List.getElem?_append_left (by rw [List.length_map]; exact this), List.getElem?_map, c3]
            rfl
          | none =>
            rw [hn] at c3
            have hk1 := List.getElem?_eq_none_iff.mp c3
            have ek : k + 1 = A.length := by omega
            rw [List.getElem?_append_right (by rw [List.length_map]; omega), List.length_map, ek, Nat.sub_self, b0]
            have hr := al js (List.mem_of_getElem? hj)
            rw [hr]
            by_cases h1 : r + 1 ≤ t
            · rw [if_pos h1]
              show _ = if m ≠ m + (t + 1) - (r + 1) then _ else _
              rw [if_pos (by omega)]
            · rw [if_neg h1]
              show _ = if m ≠ m + (t + 1) - (r + 1) then _ else _
              rw [if_neg (by omega)]
      · rw [List.getElem?_append_right (by rw [List.length_map]; exact hk), List.length_map] at h
        obtain ⟨c1, c2, c3⟩ := b1 _ is h
        refine ⟨fun i hi => by have := c1 i hi; omega, by omega, ?_⟩
        rw [List.getElem?_append_right (by rw [List.length_map]; omega), List.length_map, ← c3]
        congr 1
        omega
    · by_cases h : r ≤ t
      · rw [if_pos h] at a0
        have := (List.getElem?_eq_some_iff.mp a0).1
        rw [List.getElem?_append_left (by rw [List.length_map]; exact this), List.getElem?_map, a0, if_pos (by omega), List.range'_succ]
        rfl
      · rw [if_neg h] at a0
        have := List.getElem?_eq_none_iff.mp a0
        rw [List.getElem?_append_right (by rw [List.length_map]; omega), List.length_map, show 0 - A.length = 0 by omega, b0, if_neg (by omega), if_neg (by omega)]
theorem combs_next {n r k : Nat} {is : List Nat} (h : (combsL r (List.range n))[k]? = some is) : (∀ i ∈ is, i < n) ∧ is.length = r ∧ r ≤ n ∧ (combsL r (List.range n))[k + 1]? = nextC n is := by
  have l := combsL_len (List.mem_of_getElem? h)
  rw [List.range_eq_range'] at h ⊢
  have z := (combs_range n 0 r).1 k is h
  rw [Nat.zero_add] at z
  exact ⟨fun i hi => (z.1 i hi).2, l, z.2.1, z.2.2⟩
theorem combs_first (n r : Nat) : (combsL r (List.range n))[0]? = if r ≤ n then some (List.range r) else none := by
  rw [List.range_eq_range', List.range_eq_range']
  exact (combs_range n 0 r).2
/-- the step of the model's own -/
def nextM (n : Nat) (indices : List Nat) : Option (List Nat) := match List.find? (fun i => indices.getD i 0 != i + n - indices.length) (List.range indices.length).reverse with
  | none => none
  | some i => some (List.take i indices ++ List.map (fun x => indices.getD i 0 + 1 + x) (List.range (indices.length - i)))
theorem find_succ {p : Nat → Bool} (r : Nat) : List.find? p (List.range (r + 1)).reverse = match List.find? (fun i => p (i + 1)) (List.range r).reverse with
    | some j => some (j + 1)
    | none => if p 0 = true then some 0 else none := by
  rw [List.range_succ_eq_map, List.reverse_cons, List.find?_append, ← List.map_reverse, List.find?_map]
  show (Option.map Nat.succ (List.find? (fun i => p (i + 1)) _)).or _ = _
  cases List.find? (fun i => p (i + 1)) (List.range r).reverse with
  | some j => rfl
  | none =>
    show List.find? p [0] = _
    cases h : p 0 <;> simp [h]
theorem nextM_eq {n : Nat} : ∀ is : List Nat, nextM n is = nextC n is
  | [] => rfl
  | i :: is => by
    have ih := nextM_eq (n := n) is
    unfold nextM at ih ⊢
    rw [List.length_cons, find_succ]
    have e : (fun j => (i :: is).getD (j + 1) 0 != j + 1 + n - (is.length + 1)) = fun j => is.getD j 0 != j + n - is.length := funext fun j => by
      rw [List.getD_cons_succ, show j + 1 + n - (is.length + 1) = j + n - is.length by omega]
    rw [e, nextC]
    cases hf : List.find? (fun j => is.getD j 0 != j + n - is.length) (List.range is.length).reverse with
    | some j =>
      rw [hf] at ih
      rw [← ih]
      show some (List.take (j + 1) (i :: is) ++ _) = some (i :: (List.take j is ++ _))
      rw [List.take_succ_cons, List.cons_append, List.getD_cons_succ, show is.length + 1 - (j + 1) = is.length - j by omega]
    | none =>
      rw [hf] at ih
      rw [← ih]
      show (match (if ((i :: is).getD 0 0 != 0 + n - (is.length + 1)) = true then some 0 else none) with | none => none | some j => _) = _
      rw [List.getD_cons_zero, Nat.zero_add]
      by_cases h : i = n - (is.length + 1)
      · rw [if_neg (by simpa using h), if_neg (by simpa using h)]
      · rw [if_pos (by simpa using h), if_pos h]
        show some (List.take 0 (i :: is) ++ List.map (fun x => (i :: is).getD 0 0 + 1 + x) (List.range (is.length + 1 - 0))) = _
        rw [List.take_zero, List.nil_append, List.getD_cons_zero, Nat.sub_zero, List.range'_eq_map_range]
end DL

/-! combinations of any items, of any size: the object and its steps -/
namespace RZ
open PySem PySem.Spec PyProof.Rows L2
open AutoSeq1 (wpAny_loadPart')
/-- the object of combinations: its pool, its state, the choice told last, the indices -/
def cnObj (p : Addr) (st : Int) (old : Value) (is : List Nat) : Obj := { cls := .type "itertools.combinations", data := .fields ([Value.ref p, rawInt st, old] ++ is.map fun (i : Nat) => rawInt (i : Int)).toArray }
structure IsCn (h : Heap) (c p : Addr) (items : Array Value) (st : Int) (old : Value) (is : List Nat) : Prop where
  obj : h.get? c = some (cnObj p st old is)
  pool : h.get? p = some (tupObj items)
  ne : c ≠ p
section
variable {prog : Program} {w : World} {A : Around} {E : Value → Shared → Prop} {s : Shared} {c p : Addr} {items : Array Value}
end
end RZ

/-! combinations of a list or a tuple, of any size: the call, the walk -/
namespace RZ
open PySem PySem.Spec PyProof.Rows L2
open AutoSeq1 (wpAny_loadPart')
open DL (combsL nextC nextM nextM_eq combs_next combs_first)
end RZ
namespace DL
open L2 PySem PySem.Spec PyProof.Rows
open Evl (Ex ex_l ex_t sz_of)
section
variable {K : PySem.W.Frag} {T : Tb} {S : SA} {E : XK} {Hb H Hb1 H1 : Hp} {n n1 : Nat}
end
end DL

/-! list(combinations(..)) -/
namespace RZ
open PySem PySem.Calls PyProof.Rows PyProof.V PySem.Spec PySem.W L2
open DL (combsL nextC nextM nextM_eq combs_next combs_first)
/-- where combinations stands at the i-th turn, its items told -/
def CnAt (items : Array Value) (r : Nat) (c p : Addr) (i : Nat) (h : Heap) : Prop := ∃ st old is, IsCn h c p items st old is ∧
  ((i = 0 ∧ r ≤ items.size ∧ st = 0 ∧ old = .none ∧ is = List.range r) ∨ (items.size < r ∧ st = 2) ∨ ∃ k, i = k + 1 ∧ st = 1 ∧ (combsL r (List.range items.size))[k]? = some is)
section
variable {prog : Program} {w : World} {A : Around} {E : Value → Shared → Prop} {s : Shared} {c p : Addr} {items : Array Value} {r i : Nat}
theorem CnAt.there {h : Heap} (st : CnAt items r c p i h) : c < h.objs.size ∧ p < h.objs.size ∧ ∃ o, h.get? c = some o ∧ o.cls = .type "itertools.combinations" := by
  obtain ⟨st, old, is, hb, _⟩ := st
  exact ⟨Heap.lt_size hb.obj, Heap.lt_size hb.pool, _, hb.obj, rfl⟩
theorem CnAt.keep {h h' : Heap} (st : CnAt items r c p i h) (kc : ∀ o, h.get? c = some o → h'.get? c = some o) (kp : ∀ o, h.get? p = some o → h'.get? p = some o) : CnAt items r c p i h' := by
  obtain ⟨st, old, is, hb, q⟩ := st
  exact ⟨st, old, is, ⟨kc _ hb.obj, kp _ hb.pool, hb.ne⟩, q⟩
end
section
variable {prog : Program} {w : World} {A : Around} {s : Shared} {R : Result → Shared → Prop} {c p S : Addr} {items : Array Value} {r N : Nat}
end
end RZ
namespace RZ
open PySem PySem.Spec PyProof.Rows L2
open DL (combsL)
end RZ
namespace DL
open L2 PySem PySem.Spec PyProof.Rows
open Evl (Ex ex_l ex_t sz_of)
section
variable {K : PySem.W.Frag} {T : Tb} {S : SA} {E : XK}
end
end DL

/-! defs that give a new list, not frozen -/
namespace DL
open L2 PySem PySem.Spec PyProof.Rows
open Evl (Ex ex_l ex_t sz_of)
def ROk (K : PySem.W.Frag) (T : Tb) (S : SA) (Hb H : Hp) (n : Nat) (P : List D → Nat → Prop) (Q : VK) : Prop :=
  ∀ ds p vs n' Hb' H', Stp K T S Hb H n Hb' H' n' → Fresh H p → H' p = some (.lst vs) → Hb' p = none → DnA K Hb' vs ds → P ds n' → Q (.ref p) H'
section
variable {K : PySem.W.Frag} {T : Tb} {S : SA} {E : XK} {Hb H Hb1 H1 H0 : Hp} {n n1 : Nat} {t u : TS} {te : TE} {P : List D → Nat → Prop} {Q : VK}
theorem ROk.step (a : Stp K T S Hb H n Hb1 H1 n1) (h : ROk K T S Hb H n P Q) : ROk K T S Hb1 H1 n1 P Q := fun ds p vs n' Hb' H' s f => h ds p vs n' Hb' H' (a.trans s) (a.dm p f)
variable {Pr : Program} {w : PySem.World} {mg : Str → Option Value} {base : Heap}
/-! calls -/
end
end DL

/-! sorted of tuples the first of which is () -/
namespace SCo
open L2 PySem PySem.Spec PyProof.Rows PySem.W
section
variable {prog : Program} {w : PySem.World} {A : Around} {E : Value → Shared → Prop} {s : Shared} {β : Type} {bs : List β} {enc : β → PyData} {R : Value → β → Prop}
end
end SCo

/-! <, <=, >, >= and sorted of any data that is alike -/
namespace SCo
open L2 PySem PySem.Spec PyProof.Rows PySem.W
section
variable {prog : Program} {w : PySem.World} {A : Around} {E : Value → Shared → Prop} {s : Shared} {β : Type} {bs : List β} {enc : β → PyData} {R : Value → β → Prop}
end
section
variable {X : Cx}
end
end SCo
namespace DL
open L2 PySem PySem.Spec PyProof.Rows SCo
open Evl (Ex ex_l ex_t sz_of)
section
variable {K : PySem.W.Frag}
end
end DL

/-! tuples of tuples of ints: their order, sorted lists of these -/
namespace DL
open L2 PySem PySem.Spec PyProof.Rows SCo PySem.W
def tt (nss : List (List Int)) : D := .tup (nss.map tupI)
/-! tuples of ints, the first of which may be () -/
/-! == and in -/
end DL

/-! a dict of one's own by rows of ints and None, whose values are lists of one's own: x.setdefault(row, []).append(y), and a walk of its values -/
namespace SCo
open L2 PySem PySem.Spec PyProof.Rows
/-- an entry: the row, where its tuple lies, where its list lies -/
abbrev En := List (Option Int) × Addr × Addr
def ko : Option Int → NestedKey
  | none => .none
  | some i => .num i
def oV : Option Int → V
  | none => .non
  | some i => .int i
def rowK (r : List (Option Int)) : NestedKey := .tup (r.map ko)
def entX (g : En) : NestedKey × Addr × Value := (rowK g.1, g.2.1, .ref g.2.2)
theorem ko_inj {a b : Option Int} (h : ko a = ko b) : a = b := by
  cases a with
  | none => cases b with
    | none => rfl
    | some j => cases h
  | some i => cases b with
    | none => cases h
    | some j => cases h; rfl
theorem kos_inj {a b : List (Option Int)} (h : a.map ko = b.map ko) : a = b := by
  induction a generalizing b with
  | nil => cases b with
    | nil => rfl
    | cons y b => cases h
  | cons x a ih => cases b with
    | nil => cases h
    | cons y b =>
      obtain ⟨h1, h2⟩ := List.cons.inj h
      rw [ko_inj h1, ih h2]
theorem rowK_inj {a b : List (Option Int)} (h : rowK a = rowK b) : a = b := kos_inj (NestedKey.tup.inj h)
theorem row_depth (r : List (Option Int)) : NestedKey.depthAll (r.map ko) ≤ 1 := by
  induction r with
  | nil => simp [NestedKey.depthAll]
  | cons x r ih =>
    rw [List.map_cons]
    simp only [NestedKey.depthAll]
    have : (ko x).depth ≤ 1 := by cases x <;> simp [ko, NestedKey.depth]
    omega
theorem all_row {h : Heap} : ∀ {r : List (Option Int)} {us : List Value}, Vals (r.map oV) us → NestedAll h (r.map ko) us
  | [], _, v => by cases v; exact .nil
  | x :: r, _, v => by
    cases v with
    | cons a b =>
      refine .cons ?_ (all_row b)
      cases x with
      | none =>
        have e := a
        simp only [oV] at e
        have e : _ = Value.none := e
        subst e
        exact .none
      | some i =>
        obtain ⟨t, e⟩ := a
        subst e
        exact .int i t
theorem row_is {P : Program} {w : World} {H : Hp} {h : Heap} {a : Addr} {r : List (Option Int)} (ok : HOk P w H h) (e : H a = some (.tup (r.map oV))) : (nestedKind P w).is h (rowK r) a := by
  obtain ⟨z, its, hv, o, ho, hc, n, hd⟩ := (show ObjOk P w H h a (.tup (r.map oV)) from ok a _ e)
  refine ⟨.tup ho hc hd (all_row hv), ?_⟩
  have := row_depth r
  unfold rowK
  simp only [NestedKey.depth]
  omega
/-- the dict with these entries -/
def NDO (P : Program) (w : World) (a : Addr) (gs : List En) : HO := .ext fun h => (a == sysModules) = false ∧ ∃ o es ep, h.get? a = some o ∧ o.ExactDict ∧ o.data = .dict es ep ∧ es.toList = (gs.map entX).map (entryOfKey (nestedKind P w)) ∧ (gs.map (·.1)).Nodup
theorem ndo_ok {P : Program} {w : World} {H : Hp} {h : Heap} {a : Addr} {gs : List En} (hs : (a == sysModules) = false) {o : Obj} {es : Array DictEntry} {ep : Nat} (ho : h.get? a = some o) (hx : o.ExactDict) (hd : o.data = .dict es ep)
    (he : es.toList = (gs.map entX).map (entryOfKey (nestedKind P w))) (hn : (gs.map (·.1)).Nodup) : ObjOk P w H h a (NDO P w a gs) :=
  ⟨⟨hs, o, es, ep, ho, hx, hd, he, hn⟩, ⟨o, ho⟩, fun h1 h2 ⟨a0, o, es, ep, b1, r⟩ b => ⟨a0, o, es, ep, b o b1, r⟩⟩
theorem ndo_no {P : Program} {w : World} {a : Addr} {gs : List En} : ∀ ps, NDO P w a gs ≠ .tbl ps := fun ps z => by unfold NDO at z; cases z
theorem keys_nodup {gs : List En} (h : (gs.map (·.1)).Nodup) : ((gs.map entX).map (·.1)).Nodup := by
  rw [List.map_map]
  have e : ((fun x : NestedKey × Addr × Value => x.1) ∘ entX) = fun g => rowK g.1 := rfl
  rw [e, show (fun g : En => rowK g.1) = rowK ∘ (·.1) from rfl, ← List.map_map]
  exact List.pairwise_map.mpr (h.imp fun hn z => hn (rowK_inj z))
section
variable {X : Cx} {pins : List (Addr × Obj)} {σ : L2.St} {H : Hp} {s : Shared} {a b l : Addr} {A : Around} {E : Value → Shared → Prop} {gs : List En} {r : List (Option Int)}
theorem ndo_of (I : Inv X pins σ H s) (e : H a = some (NDO X.prog X.w a gs)) : (a == sysModules) = false ∧ ∃ o es ep, s.heap.get? a = some o ∧ o.ExactDict ∧ o.data = .dict es ep ∧ es.toList = (gs.map entX).map (entryOfKey (nestedKind X.prog X.w)) ∧ (gs.map (·.1)).Nodup :=
  (show ObjOk X.prog X.w H s.heap a (NDO X.prog X.w a gs) from I.hok a _ e).1
theorem d_setdN {Q : Value → Shared → Prop} (hu : A.in1.units + 8 < cLine) (I : Inv X pins σ H s) (e : H a = some (NDO X.prog X.w a gs)) (ke : ∀ g ∈ gs, H g.2.1 = some (.tup (g.1.map oV))) (eb : H b = some (.tup (r.map oV))) (hl : gs.length < sizeLine)
    (h1 : ∀ g ∈ gs, g.1 = r → ∀ s' : Shared, Inv X pins σ H s' → Q (.ref g.2.2) s') (h2 : (∀ g ∈ gs, g.1 ≠ r) → ∀ s' : Shared, Inv X pins σ (upd H a (NDO X.prog X.w a (gs ++ [(r, b, l)]))) s' → Q (.ref l) s') :
    wpAny (model X.prog X.w) A (call (.builtin "dict.setdefault") [.ref a, .ref b, .ref l]) Q E s := by
  obtain ⟨hd, o, es, ep, ho, hx, hdt, he, hn⟩ := ndo_of I e
  have dd : Heap.DictOfH (nestedKind X.prog X.w) s.heap a (gs.map entX) := ⟨o, es, ep, ho, hx, hdt, he, fun x hx => by
    obtain ⟨g, hg, rfl⟩ := List.mem_map.mp hx
    exact row_is I.hok (ke g hg), keys_nodup hn⟩
  refine call_setdefault_heap (knd := nestedKind X.prog X.w) (hsz := by rw [List.length_map]; omega) hu (row_is I.hok eb) hd dd (fun p hp => ?_) fun hno h' dd' hs => ?_
  · unfold atKey at hp
    obtain ⟨x, hf, rfl⟩ := Option.map_eq_some_iff.mp hp
    have hm := List.mem_of_find?_eq_some hf
    obtain ⟨g, hg, rfl⟩ := List.mem_map.mp hm
    have q := List.find?_some hf
    have hk : rowK g.1 = rowK r := of_decide_eq_true q
    exact h1 g hg (rowK_inj hk) _ (I.tok _)
  · have hnone : ∀ g ∈ gs, g.1 ≠ r := fun g hg z => by
      unfold atKey at hno
      have := List.find?_eq_none.mp (Option.map_eq_none_iff.mp hno) (entX g) (List.mem_map_of_mem hg)
      exact this (by simp [entX, z])
    have est : storedH (gs.map entX) (rowK r) b (Value.ref l) = (gs ++ [(r, b, l)]).map entX := by
      unfold storedH
      rw [hno]
      simp [entX]
    rw [est] at dd'
    obtain ⟨o', es', ep', g1, g2, g3, g4, _, g5⟩ := dd'
    have n2 : ((gs ++ [(r, b, l)]).map (·.1)).Nodup := by
      rw [List.map_append, List.nodup_append]
      refine ⟨hn, by simp, fun x hx y hy z => ?_⟩
      obtain ⟨g, hg, rfl⟩ := List.mem_map.mp hx
      simp only [List.map_cons, List.map_nil, List.mem_singleton] at hy
      exact hnone g hg (z.trans hy)
    refine h2 hnone _ (I.write (e := a) (by rw [e]; exact True.intro) (.inl rfl) (fun b' u nb q => (hs.2 b' nb).trans q) ⟨o', g1⟩ (ndo_ok hd g1 g2 g3 g4 n2))
end
theorem hu8_of {k : Nat} {A : Around} (hr : Room k A) : A.in1.units + 8 < cLine := by
  have := hr.un
  show A.units + 1 + 8 < cLine
  omega
/-- {} as such a dict -/
def tDNewN (P : Program) (w : World) : TE := fun _ H Q => ∀ p, H p = none → (p == sysModules) = false → Q (.ref p) (upd H p (NDO P w p []))
theorem pe_dnewN {X : Cx} {pos : Pos} : PE X (.Dict [] [] pos) (tDNewN X.prog X.w) := by
  refine ⟨fun pins s σ H Q I h => ?_⟩
  refine thn ((pe_dnewT (X := X) (pos := pos)).run pins s σ H (fun x H' => ∃ p, x = .ref p ∧ H p = none ∧ H' = upd H p (.dT [])) I fun p hp => ⟨p, rfl, hp, rfl⟩) fun u s1 ⟨x, H1, I1, rx, p, ex, hp, eH⟩ => ?_
  subst ex eH
  obtain ⟨z, hs, xs, pr, o, es, ep, ho, hx, hdt, he, hn⟩ := (show ObjOk X.prog X.w (upd H p (.dT [])) s1.heap p (.dT []) from I1.hok p _ upd_same)
  cases pr
  have I2 := I1.write (o := NDO X.prog X.w p []) (x := p) (e := p) (h' := s1.heap) (t' := s1.toks) (by rw [upd_same]; exact True.intro) (.inl rfl) (fun b u _ q => q) ⟨o, ho⟩ (ndo_ok hs ho hx hdt he List.nodup_nil)
  rw [upd_upd] at I2
  exact ⟨.ref p, _, I2, rx, h p hp hs⟩
def tDSetdN (P : Program) (w : World) (td ty tx : TE) : TE := fun σ H Q => td σ H fun x H1 => ∃ (a : Addr) (gs : List En), x = .ref a ∧ H1 a = some (NDO P w a gs) ∧ ty σ H1 fun y H2 => tx σ H2 fun z H3 => ∃ (gs : List En) (r : List (Option Int)) (b l : Addr), H3 a = some (NDO P w a gs) ∧
  y = .ref b ∧ H3 b = some (.tup (r.map oV)) ∧ z = .ref l ∧ gs.length < sizeLine ∧ (∀ g ∈ gs, H3 g.2.1 = some (.tup (g.1.map oV))) ∧ (∀ g ∈ gs, g.1 = r → Q (.ref g.2.2) H3) ∧ ((∀ g ∈ gs, g.1 ≠ r) → Q (.ref l) (upd H3 a (NDO P w a (gs ++ [(r, b, l)]))))
section
variable {X : Cx} {o e f : Expr} {td ty tx : TE} {apos cpos : Pos}
theorem pe_dsetdN (hu : X.A.in1.units + 8 < cLine) (ho : PE X o td) (he : PE X e ty) (hf : PE X f tx) (m : M2 X o "setdefault" apos e f cpos) : PE X (.Call (.Attribute o "setdefault" apos) [e, f] [] cpos) (tDSetdN X.prog X.w td ty tx) := by
  refine ⟨fun pins s σ H Q I h => ?_⟩
  refine wpAny_Call_method m.base m.few m.line PySem.F.plainAttrs_dict PySem.F.slot_dict_setdefault PySem.F.type_dict_setdefault (thn (ho.run pins s σ H _ I h) fun u s1 ⟨x, H1, I1, rx, a, gs, ex, d, q1⟩ => ?_)
  subst ex
  obtain rfl : u = Value.ref a := rx
  obtain ⟨_, ob, es, ep, g1, g2, _⟩ := ndo_of I1 d
  refine ⟨⟨ob, g1, g2.1⟩, fun b hb => ?_, ?_⟩
  · cases hb
    exact ⟨ob, g1, g2.2.1⟩
  rw [m.trees]
  refine Calls.callWith_builtin rfl (Calls.evalArgs_plain (Calls.spliced_cons (thn (he.run pins s1 σ H1 _ I1 q1) fun iv s2 ⟨y, H2, I2, ry, q2⟩ =>
    Calls.spliced_cons (thn (hf.run pins s2 σ H2 _ I2 q2) fun fv s3 ⟨z, H3, I3, rz, gs3, r, b, l, ea, ey, eb, ez, hl, ke, q3, q4⟩ => Calls.spliced_nil ?_))))
  subst ey ez
  obtain rfl : iv = Value.ref b := ry
  obtain rfl : fv = Value.ref l := rz
  exact d_setdN hu I3 ea ke eb hl (fun g hg er s4 I4 => ⟨.ref g.2.2, _, I4, rfl, q3 g hg er⟩) fun hn s4 I4 => ⟨.ref l, _, I4, rfl, q4 hn⟩
end
/-! ### its values -/
def NDE (P : Program) (w : World) (a : Addr) (o : Obj) (gs : List En) : HO := .ext fun h => (a == sysModules) = false ∧ h.get? a = some o ∧ o.ExactDict ∧ ∃ es ep, o.data = .dict es ep ∧ es.toList = (gs.map entX).map (entryOfKey (nestedKind P w))
def NdeOk (P : Program) (w : World) (a : Addr) (o : Obj) (gs : List En) : Prop := (a == sysModules) = false ∧ o.ExactDict ∧ ∃ es ep, o.data = .dict es ep ∧ es.toList = (gs.map entX).map (entryOfKey (nestedKind P w))
/-- the dict stands still from here on -/
theorem ndo_still {X : Cx} {pins : List (Addr × Obj)} {σ : L2.St} {H : Hp} {s : Shared} {a : Addr} {gs : List En} (I : Inv X pins σ H s) (e : H a = some (NDO X.prog X.w a gs)) : ∃ o, NdeOk X.prog X.w a o gs ∧ Inv X pins σ (upd H a (NDE X.prog X.w a o gs)) s := by
  obtain ⟨hs, o, es, ep, ho, hx, hd, he, hn⟩ := ndo_of I e
  exact ⟨o, ⟨hs, hx, es, ep, hd, he⟩, I.write (o := NDE X.prog X.w a o gs) (x := a) (e := a) (h' := s.heap) (t' := s.toks) (by rw [e]; exact True.intro) (.inl rfl) (fun b u _ q => q) ⟨o, ho⟩ ⟨⟨hs, ho, hx, es, ep, hd, he⟩, ⟨o, ho⟩, fun h1 h2 ⟨a0, b1, r⟩ b => ⟨a0, b o b1, r⟩⟩⟩
def Itn (P : Program) (w : World) (d : Addr) (o : Obj) (gs : List En) : It where
  go := fun i H => H d = some (NDE P w d o gs) ∧ i < gs.length
  yld := fun i H x H' => H' = H ∧ ∃ g, gs[i]? = some g ∧ x = .ref g.2.2
  stop := fun i H => H d = some (NDE P w d o gs) ∧ gs.length ≤ i
theorem ents_size {P : Program} {w : World} {gs : List En} {es : Array DictEntry} (he : es.toList = (gs.map entX).map (entryOfKey (nestedKind P w))) : es.size = gs.length := by
  have := congrArg List.length he
  simpa using this
theorem entry_valIter : entryFor table "dict_valueiterator.__iter__" = some Builtin.«dict_keyiterator.__iter__» :=
  entryFor_alias (id' := "dict_keyiterator.__iter__") (by kernel_rfl) (by first | rfl | decide +kernel | (unfold String.splitOn; simp +decide [String.splitOnAux])) (by decide +kernel) (by kernel_rfl)
theorem turn_valN {P : Program} {w : World} {K : PySem.W.Frag} {tg : Expr} (d it : Addr) (o : Obj) (gs : List En) (n ep : Nat) (hn : n = gs.length) (ho : ∃ es, o.data = .dict es ep) : Turn P w K tg (Itn P w d o gs) [it] it fun i h => h.IsValIter it d i n ep ∧ i ≤ n where
  mem := by simp
  obj := fun i h st b hb => by
    obtain ⟨⟨ob, g1, g2, g3⟩, _⟩ := st
    rw [List.mem_singleton.mp hb]
    exact ⟨ob, g1, fun v q => by rw [g3] at q; cases q⟩
  keep := fun i h h' st k => let ⟨⟨ob, g1, r⟩, hi⟩ := st; ⟨⟨ob, k it (by simp) _ g1, r⟩, hi⟩
  item := by
    intro X hP hw hK hc i pins s σ H E I hf st hg
    subst hP hw hK
    obtain ⟨hd, hi⟩ := hg
    obtain ⟨⟨hs, h1, h2, es, ep', h3, h4⟩, _⟩ := (show ObjOk X.prog X.w H s.heap d (NDE X.prog X.w d o gs) from I.hok d _ hd)
    obtain ⟨es2, h5⟩ := ho
    rw [h3] at h5
    obtain ⟨rfl, rfl⟩ : es = es2 ∧ ep' = ep := by injection h5 with a b; exact ⟨a, b⟩
    obtain ⟨f0, f1, f2, f3, f4, f5⟩ := hf it (by simp)
    have ne : d ≠ it := fun z => by rw [z, f0] at hd; cases hd
    have hz := ents_size h4
    subst hn
    rw [← hz] at st
    refine (Walks.rawValues (prog := X.prog) (w := X.w) (I.ok.hd hc) it d ne es ep').item i s _ E (by omega) ⟨st.1, o, h1, h2, h3⟩ fun v h' tk hv st' k => ?_
    obtain ⟨hlt, ev⟩ := hv
    obtain ⟨⟨ob, q1, q2, q3⟩, _⟩ := st'
    have I2 : Inv X pins σ H { s with heap := h', toks := tk } := I.turned (t' := tk) (fun b ob hb q => k b ob (by simpa using hb) q) f0 f1 f3 f4 f5
    have hge : gs[i]? = some gs[i] := List.getElem?_eq_getElem hi
    have evl : v = Value.ref gs[i].2.2 := by
      rw [ev]
      have e : es.toList[i]? = some es[i] := by rw [Array.getElem?_toList]; exact Array.getElem?_eq_getElem hlt
      rw [h4, List.getElem?_map, List.getElem?_map, hge] at e
      have := Option.some.inj e
      rw [← this]
      rfl
    subst evl
    refine ⟨_, rfl, go_of (n := "dict_valueiterator") q1 q2 q3 (by decide) ?_⟩
    exact ⟨.ref gs[i].2.2, H, I2, rfl, ⟨rfl, gs[i], hge, rfl⟩, ⟨⟨ob, q1, q2, by rw [q3, hz]⟩, by omega⟩, fun b hb => by rw [List.mem_singleton.mp hb]; exact f0⟩
  done := by
    intro X hP hw hK hc i pins s σ H E I hf st hg
    subst hP hw hK
    obtain ⟨hd, hi⟩ := hg
    obtain ⟨⟨hs, h1, h2, es, ep', h3, h4⟩, _⟩ := (show ObjOk X.prog X.w H s.heap d (NDE X.prog X.w d o gs) from I.hok d _ hd)
    obtain ⟨es2, h5⟩ := ho
    rw [h3] at h5
    obtain ⟨rfl, rfl⟩ : es = es2 ∧ ep' = ep := by injection h5 with a b; exact ⟨a, b⟩
    obtain ⟨f0, f1, f2, f3, f4, f5⟩ := hf it (by simp)
    have ne : d ≠ it := fun z => by rw [z, f0] at hd; cases hd
    have hz := ents_size h4
    obtain ⟨st, hle⟩ := st
    subst hn
    obtain rfl : i = gs.length := by omega
    rw [← hz] at st
    refine (Walks.rawValues (prog := X.prog) (w := X.w) (I.ok.hd hc) it d ne es ep').done s _ E ⟨st, o, h1, h2, h3⟩ fun h' tk k => ?_
    exact ⟨rfl, I.turned (t' := tk) (fun b ob hb q => k b ob (by simpa using hb) q) f0 f1 f3 f4 f5⟩
  self := fun A i s Q E st q => by
    obtain ⟨⟨ob, q1, q2, q3⟩, _⟩ := st
    have hT : s.TypeIs (.ref it) "dict_valueiterator" := ⟨_, q1, q2⟩
    refine wpAny_pyIter_slot hT PySem.F.slot_dict_valueiterator_iter (wpAny_call_entry PySem.F.slot_dict_valueiterator_iter hT entry_valIter ?_ (PySem.F.args_dict_valueiterator_iter_1 _))
    show wpAny _ _ (ret (.ref it)) _ _ s
    exact wpAny_pure ⟨_, rfl, "dict_valueiterator", _, hT, PySem.F.slot_dict_valueiterator_next.lookup, q⟩
/-- a walk of d.values(), d such a dict that stands still -/
def iValsN (P : Program) (w : World) (td : TE) : TI := fun σ H R => td σ H fun x H1 => ∃ (d : Addr) (gs : List En), x = .ref d ∧ H1 d = some (NDO P w d gs) ∧ ∀ o v, NdeOk P w d o gs → H1 v = none → R (Itn P w d o gs) (upd (upd H1 d (NDE P w d o gs)) v (ValsO d v))
theorem pi_valsN {X : Cx} {tg o : Expr} {td : TE} {apos cpos : Pos} (ho : PE X o td) (base : attributeBase o "values" X.env (eval o X.env) = eval o X.env := by rfl)
    (few : ((((backTo cpos (starEach [] X.env)).all fun x => !x.fst) && (backToKw cpos (keywordEach [] X.env)).all fun x => x.fst.isSome) && decide ((([] : List Expr).length + ([] : List Keyword).length + if ([] : List Keyword).isEmpty = true then 0 else 1) < 30)) = true := by rfl)
    (line : (apos.endLine == cpos.line) = true := by rfl) (tr : backTo cpos (starEach [] X.env) = [] := by rfl) : PI X tg (.Call (.Attribute o "values" apos) [] [] cpos) (iValsN X.prog X.w td) := by
  refine ⟨fun pins s σ H R I h => ?_⟩
  refine wpAny_Call_method base few line PySem.F.plainAttrs_dict PySem.F.slot_dict_values PySem.F.type_dict_values (thn (ho.run pins s σ H _ I h) fun u s1 ⟨x, H0, I0, rx, d, gs, ex, hd, q⟩ => ?_)
  subst ex
  obtain rfl : u = Value.ref d := rx
  obtain ⟨ob, nok, I1⟩ := ndo_still I0 hd
  have hd1 : upd H0 d (NDE X.prog X.w d ob gs) d = some (NDE X.prog X.w d ob gs) := upd_same
  have q := fun v => q ob v nok
  have hno : ∀ v, upd H0 d (NDE X.prog X.w d ob gs) v = none → H0 v = none := fun v hv => by
    by_cases z : v = d
    · rw [z, upd_same] at hv; cases hv
    · rwa [upd_ne z] at hv
  generalize upd H0 d (NDE X.prog X.w d ob gs) = H1 at I1 hd1 q hno
  obtain ⟨⟨hs, h1, h2, es, ep, h3, h4⟩, _⟩ := (show ObjOk X.prog X.w H1 s1.heap d (NDE X.prog X.w d ob gs) from I1.hok d _ hd1)
  refine ⟨⟨ob, h1, h2.1⟩, fun b hb => ?_, ?_⟩
  · cases hb
    exact ⟨ob, h1, h2.2.1⟩
  rw [tr]
  refine Calls.callWith_builtin rfl (evalArgs_empty ?_)
  refine call_meetsIn PySem.F.slot_dict_values ⟨ob, h1, h2.1⟩ PySem.F.entry_dict_values (PySem.F.args_dict_values_1 _) (meets_dict_values_raw d hs) ⟨⟨es, ep, ob, h1, h2, h3⟩, ?_⟩
  have no : H1 s1.heap.objs.size = none := I1.hok.fresh (Nat.le_refl _)
  have at1 : (s1.heap.push (vwO d)).get? s1.heap.objs.size = some (vwO d) := Heap.get?_push_size _ rfl
  have I2 := I1.laid (t' := s1.toks) (o := ValsO d s1.heap.objs.size) (fun _ _ k => Heap.get?_push_of_some _ k) (Nat.le_refl _) ⟨at1, ⟨_, at1⟩, fun h1 h2 a b => b _ a⟩
  have at2 : (s1.heap.push (vwO d)).get? d = some ob := Heap.get?_push_of_some _ h1
  refine wpAny_pyIter_values_raw (v := s1.heap.objs.size) (d := d) ⟨_, at1, rfl, rfl⟩ ⟨ob, at2, h2, h3⟩ ?_
  refine ⟨(s1.heap.push (vwO d)).objs.size, [(s1.heap.push (vwO d)).objs.size], _, _, upd H1 s1.heap.objs.size (ValsO d s1.heap.objs.size), rfl, I2.kept (t' := s1.toks) fun b o e => Heap.get?_push_of_some _ e, turn_valN d _ ob gs es.size ep (ents_size h4) ⟨es, h3⟩, ⟨⟨_, Heap.get?_push_size _ rfl, rfl, rfl⟩, Nat.zero_le _⟩, fun b hb => ?_, q _ (hno _ no)⟩
  have e : b = (s1.heap.push (vwO d)).objs.size := by simpa using hb
  subst e
  exact I2.fpOk (Nat.le_refl _) (I2.hok.fresh (Nat.le_refl _))
/-! ### neither is an object of code -/
/-- a heap in which everything up to n is o -/
def hpOf (n : Nat) (o : Obj) : Heap := { objs := Array.replicate n o }
theorem hpOf_at {n : Nat} {o : Obj} {a : Addr} (h : a < n) {es : Array DictEntry} {ep : Nat} (hd : o.data = .dict es ep) : (hpOf n o).get? a = some o := by
  unfold Heap.get? hpOf
  have e : (Array.replicate n o)[a]? = some o := by rw [Array.getElem?_replicate, if_pos h]
  rw [e]
  cases o with
  | mk c d dt sl =>
    cases dt with
    | freed => cases hd
    | _ => rfl
theorem hpOf_only {n : Nat} {o o' : Obj} {a : Addr} (h : (hpOf n o).get? a = some o') : o' = o := by
  unfold Heap.get? hpOf at h
  have e : (Array.replicate n o)[a]? = if a < n then some o else none := by rw [Array.getElem?_replicate]
  rw [e] at h
  split at h
  · cases h
  · split at h
    · exact (Option.some.inj h).symm
    · cases h
theorem ndo_code {P : Program} {w : World} {a : Addr} {gs : List En} (hs : (a == sysModules) = false) (hn : (gs.map (·.1)).Nodup) (c : Addr) (q : Str) : NDO P w a gs ≠ LamX.CodeO c q := fun z => by
  unfold NDO LamX.CodeO at z
  have f := HO.ext.inj z
  generalize ho : ({ cls := .type "dict", data := .dict ((gs.map entX).map (entryOfKey (nestedKind P w))).toArray 0 } : Obj) = o
  have hd : o.data = .dict ((gs.map entX).map (entryOfKey (nestedKind P w))).toArray 0 := by rw [← ho]
  have t := congrFun f (hpOf (a + 1) o)
  have tr : ((a == sysModules) = false ∧ ∃ o' es ep, (hpOf (a + 1) o).get? a = some o' ∧ o'.ExactDict ∧ o'.data = .dict es ep ∧ es.toList = (gs.map entX).map (entryOfKey (nestedKind P w)) ∧ (gs.map (·.1)).Nodup) :=
    ⟨hs, o, _, 0, hpOf_at (Nat.lt_succ_self _) hd, by rw [← ho]; exact ⟨rfl, rfl, rfl⟩, hd, by simp, hn⟩
  rw [t] at tr
  obtain ⟨oc, vs, t, g1, g2, _⟩ := tr
  rw [hpOf_only g1, hd] at g2
  cases g2
theorem nde_no {P : Program} {w : World} {a : Addr} {o : Obj} {gs : List En} : ∀ ps, NDE P w a o gs ≠ .tbl ps := fun ps z => by unfold NDE at z; cases z
end SCo
namespace DL
open L2 PySem PySem.Spec PyProof.Rows SCo
open Evl (Ex ex_l ex_t sz_of)
section
variable {K : PySem.W.Frag} {T : Tb} {S : SA} {E : XK} {Hb H Hb1 H1 H0 : Hp} {n n1 : Nat} {te : TE} {FE : DT}
/-- what is one's own is rewritten, also where it is told by a property of the heap -/
theorem Stp.putX {p : Addr} {o u : HO} (s : Stp K T S Hb H n Hb1 H1 n1) (hp : Fresh H p) (h2 : Hb1 p = none) (h1 : H1 p = some o) (nt : ∀ ps, o ≠ .tbl ps) (nx : ∀ c q, o ≠ LamX.CodeO c q) (nu : ∀ ps, u ≠ .tbl ps) (na : p ≠ S.a) (nl : p ≠ S.l) : Stp K T S Hb H n Hb1 (upd H1 p u) n1 := by
  have w := s.wd
  refine ⟨s.ex, ⟨fun b y e => by rw [upd_ne (fun z => by rw [z, h2] at e; cases e)]; exact w.ex b y e, fun q hq => ?_, w.tb, w.sa.upd nu, w.sl.upd nu, w.sc.upd nu, w.nt⟩, fun h0 => ?_, fun b v e1 e2 e3 e4 e5 => ?_, fun b e => s.dm b (dm_upd nu b e)⟩
  · obtain ⟨ps, e, t1, t2⟩ := w.tabs q hq
    refine ⟨ps, by rw [upd_ne (fun z => by rw [z, h1] at e; exact nt _ (Option.some.inj e))]; exact e, t1, fun pos cv hcv => ?_⟩
    obtain ⟨c, e1, e2⟩ := t2 pos cv hcv
    exact ⟨c, e1, by rw [upd_ne (fun z => by rw [z, h1] at e2; exact nx _ _ (Option.some.inj e2))]; exact e2⟩
  · obtain ⟨g1, g2, ls, cs, m, t, g3, g4, g5, g6, g7, g8, rest⟩ := s.st h0
    exact ⟨g1, g2, ls, cs, m, t, g3, g4, g5, by rw [upd_ne na.symm]; exact g6, by rw [upd_ne nl.symm]; exact g7, g8, rest⟩
  · rw [upd_ne (hp.ne e1 e5)]
    exact s.own0 b v e1 e2 e3 e4 e5
/-- slots that hold nothing of one's own stay where something of one's own is written -/
theorem Slots.off {ρ : List SV} {σ : L2.St} {p : Addr} {o u : HO} (sl : Slots K S Hb H n ρ σ) (no : noOwnB ρ = true) (h1 : H p = some o) (nx : ∀ c q, o ≠ LamX.CodeO c q) (na : p ≠ S.a) (nl : p ≠ S.l) : Slots K S Hb (upd H p u) n ρ σ := by
  refine ⟨sl.len, fun k sv ek => ?_, sl.ap⟩
  obtain ⟨v, h3, h4⟩ := sl.ok k sv ek
  refine ⟨v, h3, ?_⟩
  have io := noOwn_get no ek
  cases sv with
  | no => trivial
  | d y => exact h4
  | st =>
    obtain ⟨h5, q1, q2, ls', cs, m, t, q3, q4, q5, q6, q7, q8, rest⟩ := h4
    exact ⟨h5, q1, q2, ls', cs, m, t, q3, q4, q5, by rw [upd_ne na.symm]; exact q6, by rw [upd_ne nl.symm]; exact q7, q8, rest⟩
  | fv FF =>
    obtain ⟨f, c, h5, h6, h7, rest⟩ := h4
    exact ⟨f, c, h5, h6, by rw [upd_ne (fun z => by rw [z, h1] at h7; exact nx _ _ (Option.some.inj h7))]; exact h7, rest⟩
  | _ => cases io
def oD : Option Int → D
  | none => .non
  | some i => .int i
def rowD (r : List (Option Int)) : D := .tup (r.map oD)
abbrev Gr := List (List (Option Int) × List Int)
def grpS (gs : Gr) (r : List (Option Int)) (j : Int) : Gr := if r ∈ gs.map (·.1) then gs.map (fun g => if g.1 = r then (g.1, g.2 ++ [j]) else g) else gs ++ [(r, [j])]
theorem rowD_raw {v : V} {r : List (Option Int)} (h : Dn K H v (rowD r)) : ∃ c, v = .ref c ∧ H c = some (.tup (r.map oV)) := by
  unfold rowD at h
  cases h with
  | @tup a xs ds g1 g2 g3 =>
    have e : ∀ {xs : List V} {r : List (Option Int)}, DnA K H xs (r.map oD) → xs = r.map oV := by
      intro xs r g
      induction r generalizing xs with
      | nil => cases g; rfl
      | cons x r ih =>
        cases g with
        | cons a b =>
          rw [ih b, List.map_cons]
          cases x with
          | none => cases a; rfl
          | some i => cases a; rfl
    rw [e g2] at g3
    exact ⟨a, rfl, g3⟩
variable {P : Program} {w : PySem.World}
structure Grp (P : Program) (w : PySem.World) (S : SA) (H0 : Hp) (i : Nat) (p : Addr) (σ : L2.St) (Hb H : Hp) (es : List En) (gs : Gr) : Prop where
  sl : σ[i]? = some (some (.ref p))
  hs : (p == sysModules) = false
  hp : H p = some (NDO P w p es)
  ks : es.map (·.1) = gs.map (·.1)
  kt : ∀ e ∈ es, Hb e.2.1 = some (.tup (e.1.map oV))
  nd : (es.map (·.2.2)).Nodup
  ls : ∀ (j : Nat) (e : En) (g : List (Option Int) × List Int), es[j]? = some e → gs[j]? = some g → H e.2.2 = some (.lst (g.2.map V.int)) ∧ Hb e.2.2 = none ∧ Fresh H0 e.2.2
  hb : Hb p = none
  fr : Fresh H0 p
  kn : (gs.map (·.1)).Nodup
theorem Grp.code {i : Nat} {p : Addr} {σ : L2.St} {es : List En} {gs : Gr} (g : Grp P w S H0 i p σ Hb H es gs) (c : Addr) (q : Str) : NDO P w p es ≠ LamX.CodeO c q := ndo_code g.hs (by rw [g.ks]; exact g.kn) c q
theorem Grp.step {i : Nat} {p : Addr} {σ : L2.St} {es : List En} {gs : Gr} (w0 : World T S Hb0 H0) (a : Stp K T S Hb H n Hb1 H1 n1) (g : Grp P w S H0 i p σ Hb H es gs) : Grp P w S H0 i p σ Hb1 H1 es gs := by
  obtain ⟨a1, a2, _⟩ := w0.nS g.fr
  have hp := a.own p _ g.hp g.hb a1 a2 ndo_no fun q => g.code p q
  refine ⟨g.sl, g.hs, hp.1, g.ks, fun e he => a.ex _ _ (g.kt e he), g.nd, fun j e x h1 h2 => ?_, hp.2, g.fr, g.kn⟩
  obtain ⟨q1, q2, q3⟩ := g.ls j e x h1 h2
  obtain ⟨b1, b2, _⟩ := w0.nS q3
  obtain ⟨c1, c2⟩ := a.own _ _ q1 q2 b1 b2 fun _ z => by cases z
  exact ⟨c1, c2, q3⟩
theorem Grp.slot {i : Nat} {p : Addr} {σ σ' : L2.St} {es : List En} {gs : Gr} (g : Grp P w S H0 i p σ Hb H es gs) (e : σ'[i]? = σ[i]?) : Grp P w S H0 i p σ' Hb H es gs := ⟨by rw [e]; exact g.sl, g.hs, g.hp, g.ks, g.kt, g.nd, g.ls, g.hb, g.fr, g.kn⟩
/-- x.setdefault(row, []).append(j) -/
theorem grp_turn {Hb0 : Hp} {n0 i jr jv : Nat} {p c : Addr} {σ : L2.St} {ρ : List SV} {es : List En} {gs : Gr} {r : List (Option Int)} {j : Int} {D : Ends} (w0 : World T S Hb0 H0) (a : Stp K T S Hb0 H0 n0 Hb H n) (sl : Sl0 K S H0 Hb H n ρ σ) (no : noOwnB ρ = true) (g : Grp P w S H0 i p σ Hb H es gs)
    (h1 : σ[jr]? = some (some (.ref c))) (hc : Hb c = some (.tup (r.map oV))) (h2 : σ[jv]? = some (some (.int j))) (l1 : gs.length ≤ 1000) (l2 : ∀ x ∈ gs, x.2.length ≤ 1000)
    (fin : ∀ Hb' H' es', Ex Hb Hb' → Stp K T S Hb0 H0 n0 Hb' H' n → Sl0 K S H0 Hb' H' n ρ σ → Grp P w S H0 i p σ Hb' H' es' (grpS gs r j) → D.nx σ H') : tDrop (tBM K "list" rAppend (tDSetdN P w (tVar i) (tVar jr) (tLst tNil)) (tCons (tVar jv) tNil)) D σ H := by
  have hle : es.length = gs.length := by
    have := congrArg List.length g.ks
    simpa using this
  obtain ⟨pa, pl, pc⟩ := w0.nS g.fr
  refine ⟨.ref p, g.sl, p, es, rfl, g.hp, .ref c, h1, Nat.zero_le _, fun b hb => ?_⟩
  have pb : p ≠ b := ne_of_none g.hp hb
  have s1 : Stp K T S Hb H n Hb (upd H b (.lst [])) n := .newO a.wd hb
  have a1 := a.trans s1
  have g1 : Grp P w S H0 i p σ Hb (upd H b (.lst [])) es gs := g.step w0 s1
  have slb := sl.step s1
  have fb : Fresh H0 b := a.dm b (fresh_none hb)
  have hbb : Hb b = none := free_of a.wd.ex hb
  obtain ⟨ba, bl, bc⟩ := w0.nS fb
  have keys : ∀ e ∈ es, upd H b (.lst []) e.2.1 = some (.tup (e.1.map oV)) := fun e he => s1.wd.ex _ _ (g.kt e he)
  refine ⟨es, r, c, b, g1.hp, rfl, s1.wd.ex _ _ hc, rfl, Evl.sz_lt (by omega), keys, fun e he er => ?_, fun hne => ?_⟩
  · obtain ⟨k, hk⟩ := List.mem_iff_getElem?.mp he
    have hkl : k < es.length := (List.getElem?_eq_some_iff.mp hk).1
    have egk : gs[k]? = some gs[k] := List.getElem?_eq_getElem (by omega)
    obtain ⟨q1, q2, q3⟩ := g1.ls k e _ hk egk
    have q1H : H e.2.2 = some (.lst (gs[k].2.map V.int)) := (g.ls k e _ hk egk).1
    obtain ⟨la, ll, lc⟩ := w0.nS q3
    have hx := l2 _ (List.getElem_mem (show k < gs.length by omega))
    have ekey : gs[k].1 = r := by
      have z : (es.map (·.1))[k]? = (gs.map (·.1))[k]? := by rw [g.ks]
      rw [List.getElem?_map, List.getElem?_map, hk, egk] at z
      have z := Option.some.inj z
      rw [← er]
      exact z.symm
    have hmem : r ∈ gs.map (·.1) := by rw [← ekey]; exact List.mem_map_of_mem (List.getElem_mem _)
    refine ⟨.inl ⟨rfl, _, SqL.of q1⟩, .int j, h2, e.2.2, gs[k].2.map V.int, .int j, rfl, rfl, q1, Evl.sz_lt (by rw [List.length_map]; omega), ?_⟩
    have ncl : ∀ c q, HO.lst (gs[k].2.map V.int) ≠ LamX.CodeO c q := fun c q => codeO_no fun _ z => by cases z
    have a2 := a1.putX (u := .lst (gs[k].2.map V.int ++ [.int j])) q3 q2 q1 (fun _ z => by cases z) ncl (fun _ z => by cases z) la ll
    have pe : p ≠ e.2.2 := fun z => by
      have t := g1.hp
      rw [z, q1] at t
      unfold NDO at t
      cases t
    refine fin Hb _ es (Ex.refl _) a2 ⟨slb.sl.off no q1 ncl la ll, slb.fr⟩ ?_
    have eg : grpS gs r j = gs.map (fun g => if g.1 = r then (g.1, g.2 ++ [j]) else g) := by unfold grpS; rw [if_pos hmem]
    have ek : (grpS gs r j).map (·.1) = gs.map (·.1) := by
      rw [eg, List.map_map]
      refine List.map_congr_left fun x _ => ?_
      show (if x.1 = r then (x.1, x.2 ++ [j]) else x).1 = x.1
      split <;> rfl
    have kn' : (gs.map (·.1)).Nodup := g.kn
    have same : ∀ (m : Nat) (x : List (Option Int) × List Int), gs[m]? = some x → x.1 = r → m = k := fun m x hm hxr => by
      have hml : m < gs.length := (List.getElem?_eq_some_iff.mp hm).1
      have i1 : (gs.map (·.1))[m]'(by rw [List.length_map]; exact hml) = (gs.map (·.1))[k]'(by rw [List.length_map]; omega) := by
        rw [List.getElem_map, List.getElem_map, ekey, ← hxr]
        exact congrArg _ (List.getElem?_eq_some_iff.mp hm).2
      exact (List.getElem_inj kn').mp i1
    refine ⟨g.sl, g.hs, by rw [upd_ne pe]; exact g1.hp, by rw [ek]; exact g.ks, g.kt, g.nd, fun m e' x hm hx' => ?_, g.hb, g.fr, by rw [ek]; exact g.kn⟩
    rw [eg, List.getElem?_map] at hx'
    obtain ⟨y, hy, rfl⟩ := Option.map_eq_some_iff.mp hx'
    obtain ⟨t1, t2, t3⟩ := g1.ls m e' y hm hy
    by_cases hyr : y.1 = r
    · have hmk := same m y hy hyr
      subst hmk
      rw [hk] at hm
      obtain rfl := Option.some.inj hm
      rw [egk] at hy
      obtain rfl := Option.some.inj hy
      rw [if_pos hyr]
      refine ⟨?_, t2, t3⟩
      rw [upd_same]
      show some (HO.lst (gs[m].2.map V.int ++ [V.int j])) = some (.lst ((gs[m].2 ++ [j]).map V.int))
      rw [List.map_append]
      rfl
    · rw [if_neg hyr]
      refine ⟨?_, t2, t3⟩
      rw [upd_ne ?_]
      · exact t1
      · intro z
        have i1 : (es.map (·.2.2))[m]? = (es.map (·.2.2))[k]? := by rw [List.getElem?_map, List.getElem?_map, hm, hk]; exact congrArg some z
        have hml : m < es.length := (List.getElem?_eq_some_iff.mp hm).1
        rw [List.getElem?_eq_getElem (by rw [List.length_map]; exact hml), List.getElem?_eq_getElem (by rw [List.length_map]; exact hkl)] at i1
        have hmk := (List.getElem_inj g.nd).mp (Option.some.inj i1)
        subst hmk
        rw [egk] at hy
        obtain rfl := Option.some.inj hy
        exact hyr ekey
  · have hmem : r ∉ gs.map (·.1) := fun h => by
      rw [← g.ks] at h
      obtain ⟨e, he, ee⟩ := List.mem_map.mp h
      exact hne e he ee
    have eg : grpS gs r j = gs ++ [(r, [j])] := by unfold grpS; rw [if_neg hmem]
    have q1 : upd (upd H b (.lst [])) p (NDO P w p (es ++ [(r, c, b)])) b = some (.lst []) := by rw [upd_ne pb.symm, upd_same]
    have a2 := a1.putX (u := NDO P w p (es ++ [(r, c, b)])) g.fr g1.hb g1.hp ndo_no g1.code ndo_no pa pl
    have sl2 : Slots K S Hb (upd (upd H b (.lst [])) p (NDO P w p (es ++ [(r, c, b)]))) n ρ σ := slb.sl.off no g1.hp g1.code pa pl
    have ncl : ∀ c q, HO.lst [] ≠ LamX.CodeO c q := fun c q => codeO_no fun _ z => by cases z
    refine ⟨.inl ⟨rfl, _, SqL.of q1⟩, .int j, h2, b, [], .int j, rfl, rfl, q1, Evl.sz_lt (by show 0 < _; decide), ?_⟩
    have a3 := a2.putX (u := .lst ([] ++ [.int j])) fb hbb q1 (fun _ z => by cases z) ncl (fun _ z => by cases z) ba bl
    refine fin Hb _ (es ++ [(r, c, b)]) (Ex.refl _) a3 ⟨sl2.off no q1 ncl ba bl, slb.fr⟩ ?_
    rw [eg]
    refine ⟨g.sl, g.hs, by rw [upd_ne pb, upd_same], by rw [List.map_append, List.map_append, g.ks]; rfl, fun e he => ?_, ?_, fun m e' x hm hx => ?_, g.hb, g.fr, ?_⟩
    · rcases List.mem_append.mp he with he | he
      · exact g.kt e he
      · rw [List.mem_singleton.mp he]
        exact hc
    · rw [List.map_append, List.nodup_append]
      refine ⟨g.nd, List.pairwise_singleton .., fun x hx y hy z => ?_⟩
      obtain ⟨e, he, rfl⟩ := List.mem_map.mp hx
      have hy : y = b := by simpa using hy
      subst hy
      obtain ⟨k, hk⟩ := List.mem_iff_getElem?.mp he
      have hkl : k < es.length := (List.getElem?_eq_some_iff.mp hk).1
      have q := (g.ls k e _ hk (List.getElem?_eq_getElem (show k < gs.length by omega))).1
      rw [z, hb] at q
      cases q
    · by_cases hml : m < es.length
      · rw [List.getElem?_append_left hml] at hm
        rw [List.getElem?_append_left (by omega)] at hx
        obtain ⟨t1, t2, t3⟩ := g.ls m e' x hm hx
        refine ⟨?_, t2, t3⟩
        have e1 : e'.2.2 ≠ b := ne_of_none t1 hb
        have e2 : e'.2.2 ≠ p := fun z => by
          have := g.hp
          rw [← z, t1] at this
          unfold NDO at this
          cases this
        rw [upd_ne e1, upd_ne e2, upd_ne e1]
        exact t1
      · have : m < (es ++ [(r, c, b)]).length := (List.getElem?_eq_some_iff.mp hm).1
        rw [List.length_append] at this
        have : m = es.length := by simp at this; omega
        subst this
        rw [List.getElem?_append_right (Nat.le_refl _), Nat.sub_self] at hm
        rw [hle, List.getElem?_append_right (Nat.le_refl _), Nat.sub_self] at hx
        obtain rfl := Option.some.inj hm
        obtain rfl := Option.some.inj hx
        exact ⟨upd_same, hbb, fb⟩
    · rw [List.map_append, List.nodup_append]
      refine ⟨g.kn, List.pairwise_singleton .., fun x hx y hy z => ?_⟩
      have hy : y = r := by simpa using hy
      rw [z, hy] at hx
      exact hmem hx
theorem dna_ints {Hb : Hp} : ∀ xs : List Int, DnA K Hb (xs.map V.int) (xs.map D.int)
  | [] => .nil
  | x :: xs => .cons (.int x) (dna_ints xs)
/-- lists of ints of one's own that are written no more -/
theorem freeze_lists {Hb0 : Hp} {n0 : Nat} (w0 : World T S Hb0 H0) : ∀ (ls : List Addr) (xss : List (List Int)) (Hb : Hp), Stp K T S Hb0 H0 n0 Hb H n → ls.Nodup → ls.length = xss.length →
    (∀ (j : Nat) (l : Addr) (xs : List Int), ls[j]? = some l → xss[j]? = some xs → H l = some (.lst (xs.map V.int)) ∧ Hb l = none ∧ Fresh H0 l) →
    ∃ Hb', Stp K T S Hb0 H0 n0 Hb' H n ∧ Ex Hb Hb' ∧ (∀ b, b ∉ ls → Hb' b = Hb b) ∧ DnA K Hb' (ls.map V.ref) (xss.map fun xs => .lst (xs.map D.int))
  | [], [], Hb, s, _, _, _ => ⟨Hb, s, Ex.refl _, fun _ _ => rfl, .nil⟩
  | [], _ :: _, _, _, _, e, _ => by cases e
  | _ :: _, [], _, _, _, e, _ => by cases e
  | l :: ls, xs :: xss, Hb, s, nd, e, h => by
    obtain ⟨h1, h2, h3⟩ := h 0 l xs rfl rfl
    obtain ⟨n1, n2⟩ := List.nodup_cons.mp nd
    obtain ⟨na, nl, nc⟩ := w0.nS h3
    have z := s.freeze (o := .lst (xs.map V.int)) h3 h2 (by rw [h1]; exact fun z => by cases z) (fun ps z => by rw [h1] at z; cases z) (fun c u z => by rw [h1] at z; exact codeO_no (o := .lst (xs.map V.int)) (fun _ z => by cases z) (Option.some.inj z)) na nl nc
    have eH : upd H l (.lst (xs.map V.int)) = H := by
      funext b
      by_cases hb : b = l
      · rw [hb, upd_same, h1]
      · rw [upd_ne hb]
    rw [eH] at z
    have ne : ∀ m ∈ ls, m ≠ l := fun m hm z => n1 (by rw [← z]; exact hm)
    obtain ⟨Hb', a1, a2, a3, a4⟩ := freeze_lists w0 ls xss (upd Hb l (.lst (xs.map V.int))) z n2 (by simpa using e) fun j m ys hm hy => by
      obtain ⟨g1, g2, g3⟩ := h (j + 1) m ys (by simpa using hm) (by simpa using hy)
      exact ⟨g1, by rw [upd_ne (ne m (List.mem_of_getElem? hm))]; exact g2, g3⟩
    refine ⟨Hb', a1, (Ex.new h2).trans a2, fun b hb => ?_, .cons (.lst (SqL.of (a2 _ _ upd_same)) (dna_ints xs)) a4⟩
    rw [a3 b (fun m => hb (List.mem_cons_of_mem _ m)), upd_ne (fun z => hb (by rw [z]; exact List.mem_cons_self))]
theorem compM_mapK {step : D → Nat → (Option D → Nat → Prop) → Prop} {f : D → D} : ∀ {xs : List D} {n : Nat} {P : List D → Nat → Prop}, (∀ x ∈ xs, ∀ n (k : Option D → Nat → Prop), k (some (f x)) n → step x n k) → P (xs.map f) n → compM step xs n P
  | [], _, _, _, p => p
  | x :: xs, n, P, h, p => h x List.mem_cons_self n _ (compM_mapK (P := fun ds n2 => P (f x :: ds) n2) (fun y hy => h y (List.mem_cons_of_mem _ hy)) p)
def tupF : D → D
  | .lst xs => .tup xs
  | d => d
/-- return tuple([tuple(v) for v in x.values()]) -/
theorem grp_ret {Hb0 : Hp} {n0 i jl : Nat} {p : Addr} {σ : L2.St} {es : List En} {gs : Gr} {D : Ends} {PD : DQ} (w0 : World T S Hb0 H0) (a : Stp K T S Hb0 H0 n0 Hb H n) (g : Grp P w S H0 i p σ Hb H es gs) (hj : jl < σ.length) (l1 : gs.length ≤ 1000)
    (rt : VOk K T S Hb0 H0 n0 PD D.rt) (pp : PD (.tup (gs.map fun g => tupI g.2)) n) : tRet (tCB (rTupOf K) (tCons (tLc (iValsN P w (tVar i)) (gName jl) tYes (tCB (rTupOf K) (tCons (tVar jl) tNil)) [jl]) tNil)) D σ H := by
  have hle : es.length = gs.length := by
    have := congrArg List.length g.ks
    simpa using this
  obtain ⟨pa, pl, pc⟩ := w0.nS g.fr
  refine ⟨.ref p, g.sl, p, es, rfl, g.hp, fun o v nok hv => ?_⟩
  have pv : p ≠ v := ne_of_none g.hp hv
  have a1 := a.putX (u := NDE P w p o es) g.fr g.hb g.hp ndo_no g.code nde_no pa pl
  have hv1 : upd H p (NDE P w p o es) v = none := by rw [upd_ne pv.symm]; exact hv
  have a2 := a1.trans (Stp.newO (o := ValsO p v) (n := n) a1.wd hv1 fun ps z => by unfold ValsO at z; cases z)
  generalize eH : upd (upd H p (NDE P w p o es)) v (ValsO p v) = H2 at a2
  have hp2 : H2 p = some (NDE P w p o es) := by rw [← eH, upd_ne pv, upd_same]
  have keep : ∀ {b : Addr} {xs : List V}, H b = some (.lst xs) → H2 b = some (.lst xs) := fun {b xs} hb => by
    rw [← eH, upd_ne (ne_of_none hb hv), upd_ne]
    · exact hb
    · intro z
      have t := g.hp
      rw [← z, hb] at t
      unfold NDO at t
      cases t
  obtain ⟨Hb', a3, e3, off, dna⟩ := freeze_lists w0 (es.map (·.2.2)) (gs.map (·.2)) Hb a2 g.nd (by rw [List.length_map, List.length_map, hle]) fun j l xs hl hx => by
    rw [List.getElem?_map] at hl hx
    obtain ⟨e, he, rfl⟩ := Option.map_eq_some_iff.mp hl
    obtain ⟨x, hx2, rfl⟩ := Option.map_eq_some_iff.mp hx
    obtain ⟨q1, q2, q3⟩ := g.ls j e x he hx2
    exact ⟨keep q1, q2, q3⟩
  have hbp : Hb' p = none := by
    rw [off p fun hm => ?_]
    · exact g.hb
    · obtain ⟨e, he, ee⟩ := List.mem_map.mp hm
      obtain ⟨k, hk⟩ := List.mem_iff_getElem?.mp he
      have hkl : k < es.length := (List.getElem?_eq_some_iff.mp hk).1
      have q := (g.ls k e _ hk (List.getElem?_eq_getElem (show k < gs.length by omega))).1
      rw [ee, g.hp] at q
      unfold NDO at q
      cases q
  have src : SrcJ K T S (Itn P w p o es) Hb' H2 n ((gs.map (·.2)).map fun xs => DL.D.lst (xs.map DL.D.int)) := fun Hb4 H4 n4 j s4 => by
    have h4 := (s4.own0 p _ hp2 hbp pa pl nde_no).1
    refine ⟨fun hj => ⟨h4, by rw [List.length_map, List.length_map] at hj; omega⟩, fun d hd => ?_⟩
    have hlt : j < es.length := by
      have := (List.getElem?_eq_some_iff.mp hd).1
      rw [List.length_map, List.length_map] at this
      omega
    refine ⟨⟨h4, hlt⟩, fun x H' y => .inl ⟨y.1, ?_⟩⟩
    obtain ⟨e, he, rfl⟩ := y.2
    obtain ⟨u, hu, hd2⟩ := dna.get hd
    rw [List.getElem?_map, List.getElem?_map, he] at hu
    obtain rfl := Option.some.inj hu
    exact hd2.up s4.ex
  have sl : Slots K S Hb' H2 n (List.replicate σ.length .no) σ := ⟨List.length_replicate, fun k s e => by
    obtain ⟨hk, ek⟩ := List.getElem?_eq_some_iff.mp e
    rw [List.getElem_replicate] at ek
    rw [List.length_replicate] at hk
    subst ek
    exact ⟨_, List.getElem?_eq_getElem hk, trivial⟩, fun k m q xs ys _ e => by
    obtain ⟨hk, ek⟩ := List.getElem?_eq_some_iff.mp e
    rw [List.getElem_replicate] at ek
    cases ek⟩
  refine lc_at (K := K) (T := T) (S := S) (P := fun ds n2 => PD (.tup ds) n2) (Q := fun v H2 => rTupOf K [v] H2 D.rt) (rdg_name (List.mem_singleton.mpr rfl)) rdt_yes (rd_cb cal_tuple (rda_cons rd_var rda_nil)) sl (.refl a3.wd) src ⟨by rw [List.length_map, List.length_map]; omega, ?_⟩ fun ds' r vs' n' Hb5 H5 s5 hr e1 e2 hd pp => ?_
  · refine compM_mapK (f := tupF) (fun x hx n2 k q => ?_) ?_
    · obtain ⟨xs, hxs, rfl⟩ := List.mem_map.mp hx
      have el : (wipeS (List.replicate σ.length SV.no) [jl]).length = σ.length := by
        show ((List.replicate σ.length SV.no).set jl SV.no).length = _
        rw [List.length_set, List.length_replicate]
      have e1 : ((wipeS (List.replicate σ.length SV.no) [jl]).set jl (.d (.lst (xs.map DL.D.int))))[jl]? = some (.d (.lst (xs.map DL.D.int))) := List.getElem?_set_self (by rw [el]; exact hj)
      show slotD ((wipeS (List.replicate σ.length SV.no) [jl]).set jl (.d (.lst (xs.map DL.D.int)))) jl _
      unfold slotD
      rw [e1]
      exact q
    · have e : ((gs.map (·.2)).map fun xs => DL.D.lst (xs.map DL.D.int)).map tupF = gs.map fun g => tupI g.2 := by
        rw [List.map_map, List.map_map]
        rfl
      rw [e]
      exact pp
  · obtain ⟨m1, m2, m3⟩ := a3.wd.nS hr
    have zz := s5.freeze (o := .lst vs') hr e2 (by rw [e1]; exact fun z => by cases z) (fun ps z => by rw [e1] at z; cases z) (fun c u z => by rw [e1] at z; exact codeO_no (o := .lst vs') (fun _ z => by cases z) (Option.some.inj z)) m1 m2 m3
    have e : upd H5 r (.lst vs') = H5 := by
      funext b
      by_cases hb : b = r
      · rw [hb, upd_same, e1]
      · rw [upd_ne hb]
    rw [e] at zz
    have hdn : Dn K (upd Hb5 r (.lst vs')) (.ref r) (.lst ds') := .lst (SqL.of upd_same) (hd.up (Ex.new e2))
    exact cal_tuple (P := PD) zz.wd (.cons (s := .d (.lst ds')) ⟨_, rfl, hdn⟩ .nil) pp ((rt.step a3).step zz)
def grpT (rows : List (List (Option Int))) (i : Nat) : Gr := (List.range i).foldl (fun gs (k : Nat) => grpS gs (rows.getD k []) (k : Int)) []
theorem grpT_succ {rows : List (List (Option Int))} {i : Nat} : grpT rows (i + 1) = grpS (grpT rows i) (rows.getD i []) (i : Int) := by
  unfold grpT
  rw [List.range_succ, List.foldl_append]
  rfl
theorem grpS_len {gs : Gr} {r : List (Option Int)} {j : Int} {m : Nat} (h1 : gs.length ≤ m) (h2 : ∀ x ∈ gs, x.2.length ≤ m) : (grpS gs r j).length ≤ m + 1 ∧ ∀ x ∈ grpS gs r j, x.2.length ≤ m + 1 := by
  unfold grpS
  split
  · refine ⟨by rw [List.length_map]; omega, fun x hx => ?_⟩
    obtain ⟨y, hy, rfl⟩ := List.mem_map.mp hx
    have := h2 y hy
    split
    · show (y.2 ++ [j]).length ≤ _
      rw [List.length_append]
      show _ + 1 ≤ _
      omega
    · omega
  · refine ⟨by rw [List.length_append]; show _ + 1 ≤ _; omega, fun x hx => ?_⟩
    rcases List.mem_append.mp hx with hx | hx
    · have := h2 x hx
      omega
    · rw [List.mem_singleton.mp hx]
      show 1 ≤ _
      omega
theorem grpT_len {rows : List (List (Option Int))} : ∀ i, (grpT rows i).length ≤ i ∧ ∀ x ∈ grpT rows i, x.2.length ≤ i
  | 0 => ⟨Nat.le_refl _, fun x hx => nomatch hx⟩
  | i + 1 => by
    rw [grpT_succ]
    exact grpS_len (grpT_len i).1 (grpT_len i).2
/-- x = {}; for v, r in enumerate(rows): x.setdefault(r, []).append(v); return tuple([tuple(l) for l in x.values()]) -/
def xsGroups (i jv jr jl : Nat) (FI : DTI) : DTS := fun DD ρ n XP => noOwnB (ρ.set i .no) = true ∧ i < ρ.length ∧ jv < ρ.length ∧ jr < ρ.length ∧ jl < ρ.length ∧
  FI (ρ.set i .no) n (fun xs n1 => ∃ rows : List (List (Option Int)), xs = enumD 0 (rows.map rowD) ∧ rows.length ≤ 1000 ∧ DD.rt (.tup ((grpT rows rows.length).map fun g => tupI g.2)) n1) XP
theorem rds_groups {wi : TI} {g : TG} {FI : DTI} {vs : List Nat} {i jv jr jl : Nat} (hiv : i ≠ jv) (hir : i ≠ jr) (hvr : jv ≠ jr) (hvs : i ∉ vs) (hi : RdI K T S E wi FI) (hg : RdG K T S vs g (xgTwo jv jr)) :
    RdS K T S E (tSeq (tAsg (tDNewN P w) (gName i)) (tSeq (tFor wi g (tDrop (tBM K "list" rAppend (tDSetdN P w (tVar i) (tVar jr) (tLst tNil)) (tCons (tVar jv) tNil)))) (tRet (tCB (rTupOf K) (tCons (tLc (iValsN P w (tVar i)) (gName jl) tYes (tCB (rTupOf K) (tCons (tVar jl) tNil)) [jl]) tNil))))) (xsGroups i jv jr jl FI) := fun σ ρ Hb0 H0 n0 Hb H n DD XP D a sl h q x => by
  obtain ⟨no, hil, hvl, hrl, hll, h⟩ := h
  intro p hp hs
  have hlen := sl.sl.len
  have w0 := a.wd
  have s0 : Stp K T S Hb H n Hb (upd H p (NDO P w p [])) n := .newO w0 hp ndo_no
  have sl1 : Slots K S Hb (upd H p (NDO P w p [])) n (ρ.set i .no) (σ.set i (some (.ref p))) := ((sl.sl).step s0).forget
  have g0 : Grp P w S H i p (σ.set i (some (.ref p))) Hb (upd H p (NDO P w p [])) [] [] := ⟨List.getElem?_set_self (by rw [← hlen]; exact hil), hs, upd_same, rfl, (fun e he => nomatch he), List.nodup_nil, (fun j e x he => by cases he), free_of w0.ex hp, fresh_none hp, List.nodup_nil⟩
  have owf : ∀ {ρ' : List SV} {σ' : L2.St}, noOwnB ρ' = true → OwF H ρ' σ' := fun {ρ' σ'} no' k xs q e io => by
    have := noOwn_get no' e
    rw [io] at this
    cases this
  show tFor wi g _ _ _ _
  refine hi (σ.set i (some (.ref p))) (ρ.set i .no) Hb (upd H p (NDO P w p [])) n _ XP _ s0.wd sl1 h (fun xs n1 Hb1 H1 J s src pp => ?_) ((x.step a).step s0)
  obtain ⟨rows, rfl, hr, pp⟩ := pp
  have len0 : (enumD 0 (rows.map rowD)).length = rows.length := by rw [enumD_len, List.length_map]
  refine ⟨fun k m σ2 H2 => m = rows.length - k ∧ k ≤ rows.length ∧ ∃ ρ2 Hb2 es, Ex Hb1 Hb2 ∧ Stp K T S Hb H n Hb2 H2 n1 ∧ Sl0 K S H Hb2 H2 n1 ρ2 σ2 ∧ Grp P w S H i p σ2 Hb2 H2 es (grpT rows k) ∧ noOwnB ρ2 = true ∧ ρ2.length = ρ.length,
    ⟨rows.length, rfl, Nat.zero_le _, _, Hb1, [], Ex.refl _, s0.trans s, ⟨sl1.step s, owf no⟩, g0.step w0 s, no, List.length_set⟩, ?_⟩
  rintro k m σ2 H2 ⟨rfl, hk, ρ2, Hb2, es, e2, s2, sl2, g2, no2, len2⟩
  obtain ⟨stop, go⟩ := src Hb2 H2 k e2 s2.wd.ex
  obtain ⟨b1, b2⟩ := grpT_len (rows := rows) k
  by_cases hlt : k < rows.length
  · have er : rows[k]? = some rows[k] := List.getElem?_eq_getElem hlt
    have ex : (enumD 0 (rows.map rowD))[k]? = some (.tup [.int (k : Int), rowD rows[k]]) := by
      rw [enumD_get, List.getElem?_map, er, Nat.zero_add]
      rfl
    obtain ⟨hgo, hy⟩ := go _ ex
    refine .inr ⟨hgo, fun σ' H' => k + 1 ≤ rows.length ∧ ∃ ρ2 Hb2 es, Ex Hb1 Hb2 ∧ Stp K T S Hb H n Hb2 H' n1 ∧ Sl0 K S H Hb2 H' n1 ρ2 σ' ∧ Grp P w S H i p σ' Hb2 H' es (grpT rows (k + 1)) ∧ noOwnB ρ2 = true ∧ ρ2.length = ρ.length, fun σ' H' hN => ⟨rows.length - (k + 1), by omega, rfl, hN⟩, fun v H' y => ?_⟩
    obtain ⟨Hb3, s3, hv3⟩ := item_step (K := K) (n := n1) s2.wd (hy v H' y)
    refine hg v _ σ2 ρ2 H Hb3 H' n1 (fun ρ' => ρ' = (ρ2.set jv (.d (.int (k : Int)))).set jr (.d (rowD rows[k]))) _ s3.wd (sl2.step s3) hv3 rfl fun ρ3 σ3 sl3 hw eρ => ?_
    subst eρ
    have es3 : σ3[i]? = σ2[i]? := by rw [← wipe_off (σ := σ3) hvs, hw, wipe_off hvs]
    have g3 := (g2.step w0 s3).slot es3
    have no3 : noOwnB ((ρ2.set jv (.d (.int (k : Int)))).set jr (.d (rowD rows[k]))) = true := noOwn_set (noOwn_set no2)
    obtain ⟨o1, f1, f2⟩ := sl3.sl.ok jr (.d (rowD rows[k])) (List.getElem?_set_self (by rw [List.length_set, len2]; exact hrl))
    obtain ⟨u1, rfl, du⟩ := f2
    obtain ⟨c, rfl, hc⟩ := rowD_raw du
    obtain ⟨o2, f3, f4⟩ := sl3.sl.ok jv (.d (.int (k : Int))) (by rw [List.getElem?_set_ne (Ne.symm hvr), List.getElem?_set_self (by rw [len2]; exact hvl)])
    obtain ⟨u2, rfl, du2⟩ := f4
    have eu : u2 = .int (k : Int) := by cases du2; rfl
    subst eu
    refine grp_turn w0 (s2.trans s3) sl3 no3 g3 f1 hc f3 (by omega) (fun y hy => by have := b2 y hy; omega) fun Hb4 H4 es4 e4 s4 sl4 g4 => ?_
    refine ⟨hlt, _, Hb4, es4, (e2.trans s3.ex).trans e4, s4, sl4, ?_, no3, by rw [List.length_set, List.length_set]; exact len2⟩
    rw [grpT_succ, List.getD_eq_getElem?_getD, er]
    exact g4
  · have e : k = rows.length := by omega
    subst e
    refine .inl ⟨stop (by omega), ?_⟩
    exact grp_ret w0 s2 g2 (by rw [← sl2.sl.len, len2]; exact hll) (by omega) (q.rt.step a) pp
end
end DL

/-! x or y of None and ints; x is not True of bools -/
namespace SCo
open L2 PySem PySem.Spec PyProof.Rows
theorem isnot_bools {P : Program} {w : World} {A : Around} {a b : Bool} {Q E : Value → Shared → Prop} {s : Shared} (h : Q (Value.bool (!decide (a = b))) s) : wpAny (model P w) A (compareOp .IsNot (Value.bool a) (Value.bool b)) Q E s := by
  show wpAny _ _ (do let x ← isSame (Value.bool a) (Value.bool b); pure (Value.bool !x)) _ _ _
  unfold isSame
  cases a <;> cases b <;> exact wpAny_pure h
theorem op_notB {X : Cx} : OpR X (compareOp .IsNot) (fun x y H Q => ∃ a b, x = .bl a ∧ y = .bl b ∧ Q (.bl (!decide (a = b))) H) := by
  intro pins s σ H x y v u Q I rx ry hq
  obtain ⟨a, b, rfl, rfl, q⟩ := hq
  cases rx
  cases ry
  exact isnot_bools ⟨.bl (!decide (a = b)), H, I, rfl, q⟩
def tOrA (ta tb : TE) : TE := fun σ H Q => ta σ H fun x H1 => (x = .non ∧ tb σ H1 Q) ∨ ∃ i : Int, x = .int i ∧ (i = 0 → tb σ H1 Q) ∧ (i ≠ 0 → Q (.int i) H1)
theorem pe_orA {X : Cx} {a b : Expr} {ta tb : TE} {pos : Pos} {rest : List Expr} (ha : PE X a ta) (hb : PE X (.BoolOp .Or (b :: rest) pos) tb) : PE X (.BoolOp .Or (a :: b :: rest) pos) (tOrA ta tb) := by
  refine ⟨fun pins s σ H Q I h => ?_⟩
  refine BoolOp_or (thn (ha.run pins s σ H _ I h) fun v s1 ⟨x, H1, I1, rx, q⟩ => ?_)
  rcases q with ⟨rfl, q⟩ | ⟨i, rfl, q1, q2⟩
  · obtain rfl : v = Value.none := rx
    refine truthy_none ?_
    rw [if_neg (by decide)]
    exact hb.run pins s1 σ H1 Q I1 q
  · obtain ⟨t, rfl⟩ := rx
    refine truthy_int ?_
    by_cases e : i = 0
    · subst e
      rw [if_neg (by decide)]
      exact hb.run pins s1 σ H1 Q I1 (q1 rfl)
    · rw [if_pos (by simpa using e)]
      exact ⟨.int i, H1, I1, ⟨t, rfl⟩, q2 e⟩
end SCo
namespace DL
open L2 PySem PySem.Spec PyProof.Rows SCo
section
variable {K : PySem.W.Frag} {T : Tb} {S : SA} {E : XK} {te tf : TE} {FE GE : DT}
def xOrA (FE GE : DT) : DT := fun ρ n P XP => FE ρ n (fun d n1 => match d with
  | .non => GE ρ n1 P XP
  | .int i => if i = 0 then GE ρ n1 P XP else P (.int i) n1
  | _ => False) XP
theorem rd_orA (h1 : DL.Rd K T S E te FE) (h2 : DL.Rd K T S E tf GE) : DL.Rd K T S E (tOrA te tf) (xOrA FE GE) := fun σ ρ Hb H n P XP Q w sl h q x =>
  h1 σ ρ Hb H n _ XP _ w sl h (fun d v n1 Hb1 H1 s hd p => by
    cases hd with
    | non => exact .inl ⟨rfl, h2 σ ρ Hb1 H1 n1 P XP Q s.wd (sl.step s) p (q.step s) (x.step s)⟩
    | int i =>
      refine .inr ⟨i, rfl, fun e => ?_, fun e => ?_⟩
      · have p : (if i = 0 then GE ρ n1 P XP else P (.int i) n1) := p
        rw [if_pos e] at p
        exact h2 σ ρ Hb1 H1 n1 P XP Q s.wd (sl.step s) p (q.step s) (x.step s)
      · have p : (if i = 0 then GE ρ n1 P XP else P (.int i) n1) := p
        rw [if_neg e] at p
        exact q (.int i) (.int i) n1 Hb1 H1 s (.int i) p
    | _ => exact p.elim) x
def notBD : D → D → (D → Prop) → Prop := fun a b k => match a, b with
  | .bl x, .bl y => k (.bl (!decide (x = y)))
  | _, _ => False
theorem o2_notB : Op2 K (fun x y H Q => ∃ a b, x = .bl a ∧ y = .bl b ∧ Q (.bl (!decide (a = b))) H) notBD := by
  intro T S x y a b Hb H n P Q w hx hy h q
  cases hx with
  | bl x =>
    cases hy with
    | bl y => exact ⟨x, y, rfl, rfl, q.now w (.bl _) h⟩
    | _ => exact h.elim
  | _ => exact h.elim
end
end DL


namespace Lw
open L2 PySem DL
/-! the mathematics of tables -/
mutual
/-- nothing that was caught is in it -/
def nx : D → Bool
  | .exc _ _ _ => false
  | .fnv _ => false
  | .dit _ _ => false
  | .lam _ => false
  | .lst xs => nxs xs
  | .tup xs => nxs xs
  | .dic _ xs => nxs xs
  | .ins _ _ xs => nxs xs
  | _ => true
def nxs : List D → Bool
  | [] => true
  | d :: ds => nx d && nxs ds
end
theorem bare_of {d : D} (h : nx d = true) : bareD d := by cases d <;> first | trivial | (simp [nx] at h)
theorem nxs_mem : ∀ {ds : List D} {d : D}, nxs ds = true → d ∈ ds → nx d = true
  | e :: es, d, h, hm => by
    simp [nxs] at h
    rcases List.mem_cons.mp hm with rfl | hm
    · exact h.1
    · exact nxs_mem h.2 hm
theorem nxs_of : ∀ {ds : List D}, (∀ d ∈ ds, nx d = true) → nxs ds = true
  | [], _ => rfl
  | d :: ds, h => by
    simp only [nxs, Bool.and_eq_true]
    exact ⟨h d List.mem_cons_self, nxs_of fun e he => h e (List.mem_cons_of_mem _ he)⟩
def betw (lo hi : Int) : D → Bool
  | .int i => decide (lo ≤ i) && decide (i ≤ hi)
  | _ => false
def cellB (k : D) (d : D) : Bool := match d, k with
  | .non, _ => true
  | .int i, .int k => decide (0 ≤ i) && decide (i ≤ k - 1)
  | _, _ => false
def kindsB : D → Bool
  | .tup ks => decide (1 ≤ ks.length) && decide (ks.length ≤ 8) && ks.all (betw 1 6)
  | _ => false
def rowB (ks : List D) : D → Bool
  | .tup cs => decide (cs.length = ks.length) && (ks.zip cs).all fun p => cellB p.1 p.2
  | _ => false
theorem compM_map {step : D → Nat → (Option D → Nat → Prop) → Prop} {f : D → D} : ∀ {xs : List D} {n : Nat} {P : List D → Nat → Prop}, (∀ x ∈ xs, ∀ n (k : Option D → Nat → Prop), k (some (f x)) n → step x n k) → P (xs.map f) n → compM step xs n P
  | [], _, _, _, p => p
  | x :: xs, n, P, h, p => h x List.mem_cons_self n _ (compM_map (fun y hy => h y (List.mem_cons_of_mem _ hy)) p)
theorem compM_filter {step : D → Nat → (Option D → Nat → Prop) → Prop} {f : D → Option D} : ∀ {xs : List D} {n : Nat} {P : List D → Nat → Prop}, (∀ x ∈ xs, ∀ n (k : Option D → Nat → Prop), k (f x) n → step x n k) → P (xs.filterMap f) n → compM step xs n P
  | [], _, _, _, p => p
  | x :: xs, n, P, h, p => h x List.mem_cons_self n _ (compM_filter (fun y hy => h y (List.mem_cons_of_mem _ hy)) (by
      rw [List.filterMap_cons] at p
      cases e : f x with
      | none => rw [e] at p; exact p
      | some d => rw [e] at p; exact p))
theorem blsD_map {α : Type} {f : α → Bool} : ∀ {xs : List α}, blsD (xs.map fun x => D.bl (f x)) = some (xs.map f)
  | [] => rfl
  | x :: xs => by simp [blsD, blsD_map (xs := xs)]
theorem all_map {α : Type} {f : α → Bool} {xs : List α} : (xs.map f).all id = xs.all f := by simp [List.all_map]
theorem allD_map {f : D → Bool} {xs : List D} {k : D → Prop} (h : k (.bl (xs.all f))) : allD' (.lst (xs.map fun x => .bl (f x))) k := ⟨_, blsD_map, by rw [all_map]; exact h⟩
theorem toPs_ints : ∀ js : List Int, toPs (js.map D.int) = some (js.map PyData.int)
  | [] => rfl
  | j :: js => by simp [toPs, toP, toPs_ints js]
theorem lay_ints : ∀ js : List Int, PySem.PyData.canLayAll0 (js.map PyData.int) = true
  | [] => rfl
  | j :: js => by simp [PySem.PyData.canLayAll0, PySem.PyData.canLay0, lay_ints js]
theorem dep_ints : ∀ js : List Int, PySem.PyData.depthAll (js.map PyData.int) = 0
  | [] => rfl
  | j :: js => by simp [PySem.PyData.depthAll, PySem.PyData.depth, dep_ints js]
theorem eq_ints {f : Bool → Bool} {js : List Int} {k : D → Prop} (h : k (.bl (f js.isEmpty))) : eqP f (.lst (js.map D.int)) (.lst []) k := by
  refine ⟨.list (js.map PyData.int), .list [], by simp [toP, toPs_ints], by simp [toP, toPs], ?_, ?_, ?_⟩
  · simp [SeqAt.shaped, PySem.PyData.canLay0, PySem.PyData.depth, lay_ints, dep_ints]
  · simp [SeqAt.shaped, PySem.PyData.canLay0, PySem.PyData.canLayAll0, PySem.PyData.depth, PySem.PyData.depthAll]
  · cases js <;> simpa [PyData.eqv, PyData.eqvAll] using h
def ones {α : Type} (b : α → Bool) (xs : List α) : List D := xs.filterMap fun x => if b x then some (D.int 1) else none
theorem ones_eq {α : Type} {b : α → Bool} : ∀ {xs : List α}, ones b xs = ((xs.filter b).map fun _ => (1 : Int)).map D.int
  | [] => rfl
  | x :: xs => by
    have z := ones_eq (b := b) (xs := xs)
    unfold ones at z ⊢
    rw [List.filterMap_cons, List.filter_cons]
    cases h : b x
    · simpa using z
    · simpa using z
theorem eq_ones {α : Type} {b : α → Bool} {xs : List α} {f : Bool → Bool} {k : D → Prop} (h : k (.bl (f (xs.all fun x => !b x)))) : eqP f (.lst (ones b xs)) (.lst []) k := by
  rw [ones_eq]
  refine eq_ints ?_
  have e : ((xs.filter b).map fun _ => (1 : Int)).isEmpty = xs.all fun x => !b x := by
    rw [Bool.eq_iff_iff]
    simp [List.filter_eq_nil_iff]
  rw [e]
  exact h
theorem at_nat {xs : List D} {j : Nat} {d : D} (h : xs[j]? = some d) : atD xs (j : Int) = some d := by
  have hj := (List.getElem?_eq_some_iff.mp h).1
  have e : ixN xs.length (j : Int) = some j := by
    unfold ixN
    rw [if_pos (by omega), if_pos (by omega), Int.toNat_natCast]
  unfold atD
  rw [e]
  exact h
theorem at_zero {x : D} {xs : List D} : atD (x :: xs) 0 = some x := at_nat (j := 0) rfl
theorem cut_to {xs : List D} {i : Nat} : cutD xs none (some (i : Int)) = xs.take i := by
  unfold cutD
  rw [HT.sIx_nat, HT.sIx_none, List.drop_zero]
  simp [List.take_eq_take_iff]
theorem cut_from {xs : List D} {i : Nat} : cutD xs (some (i : Int)) none = xs.drop i := by
  unfold cutD
  rw [HT.sIx_nat, HT.sIx_none]
  by_cases h : i ≤ xs.length
  · rw [Nat.min_eq_left h]
    exact List.take_of_length_le (by simp)
  · rw [Nat.min_eq_right (by omega)]
    rw [List.drop_of_length_le (Nat.le_refl _), List.drop_of_length_le (by omega)]
    simp
theorem cut_from1 {xs : List D} {i : Nat} : cutD xs (some ((i : Int) + 1)) none = xs.drop (i + 1) := cut_from (i := i + 1)
/-- the cell of matter j in a row -/
def atN (r : D) (j : Nat) : D := match r with
  | .tup cs => cs.getD j .non
  | _ => .non
def colU (rs : List D) (j : Nat) : Bool := rs.all fun r => DL.isNon (atN r j)
def firstU (m : Nat) (rs : List D) : Option Nat := (List.range m).find? (colU rs)
def rowsB (ks : List D) : D → Bool
  | .tup rs => decide (1 ≤ rs.length) && decide (rs.length ≤ 12) && rs.all (rowB ks) && (firstU ks.length rs).isNone
  | _ => false
def kR : List Str := ["kinds", "rows"]
def tabD (C : Addr) (ks rs : List D) : D := .ins C kR [.tup ks, .tup rs]
theorem rowB_inv {ks : List D} {d : D} (h : rowB ks d = true) : ∃ cs : List D, d = .tup cs ∧ cs.length = ks.length ∧ ∀ (j : Nat) (k c : D), ks[j]? = some k → cs[j]? = some c → cellB k c = true := by
  cases d with
  | tup cs =>
    simp only [rowB, Bool.and_eq_true, decide_eq_true_eq] at h
    refine ⟨cs, rfl, h.1, fun j k c e1 e2 => ?_⟩
    rw [List.all_eq_true] at h
    have z : (ks.zip cs)[j]? = some (k, c) := by simp [List.getElem?_zip_eq_some, e1, e2]
    exact h.2 _ (List.mem_of_getElem? z)
  | _ => simp [rowB] at h
theorem firstU_some {m i : Nat} {rs : List D} (hi : i < m) (h : colU rs i = true) (hn : ∀ j < i, colU rs j = false) : firstU m rs = some i :=
  List.find?_range_eq_some.mpr ⟨h, List.mem_range.mpr hi, fun j hj => by simp [hn j hj]⟩
theorem firstU_none {m : Nat} {rs : List D} (hn : ∀ j < m, colU rs j = false) : firstU m rs = none :=
  List.find?_range_eq_none.mpr fun j hj => by simp [hn j hj]
theorem vd_k {a b : D} : valD [Sum.inr (Str.ofString "kinds"), Sum.inr (Str.ofString "rows")] [a, b] (Sum.inr (Str.ofString "kinds")) = some a := rfl
theorem vd_r {a b : D} : valD [Sum.inr (Str.ofString "kinds"), Sum.inr (Str.ofString "rows")] [a, b] (Sum.inr (Str.ofString "rows")) = some b := by
  have e : ¬ (Sum.inr (Str.ofString "kinds") : Key) = Sum.inr (Str.ofString "rows") := by simp; decide
  unfold valD
  rw [if_neg e]
  unfold valD
  exact if_pos rfl
theorem lim {n : Nat} (h : n < 1099511627776) : n < LIM := h
theorem kit_no {K : PySem.W.Frag} {C : Addr} (no : ∀ t ∈ ["NoneType", "bool", "int", "str", "list", "tuple", "dict"], PySem.W.kitOne K (.type t) (.ref C) = some false) {d : D} (h : nx d = true) (hi : ∀ C ns ds, d ≠ .ins C ns ds) : PySem.W.kitOne K (tyD d) (.ref C) = some false := by
  cases d with
  | non => exact no "NoneType" (by simp)
  | bl b => exact no "bool" (by simp)
  | int i => exact no "int" (by simp)
  | str x => exact no "str" (by simp)
  | lst xs => exact no "list" (by simp)
  | tup xs => exact no "tuple" (by simp)
  | dic ks ds => exact no "dict" (by simp)
  | ins C ns ds => exact absurd rfl (hi C ns ds)
  | exc C ns ds => simp [nx] at h
  | fnv f => simp [nx] at h
  | dit ks ds => simp [nx] at h
  | lam F => simp [nx] at h
theorem fld_k {a b : D} : fldD kR [a, b] "kinds" = some a := rfl
/-! what repr shows of small data -/
mutual
def smB : D → Bool
  | .int i => decide (i.natAbs < 1000)
  | .non => true
  | .bl _ => true
  | .tup xs => smA xs
  | _ => false
def smA : List D → Bool
  | [] => true
  | d :: ds => smB d && smA ds
end
mutual
def lnB : D → Nat
  | .int i => i.natAbs + 2
  | .non => 4
  | .bl _ => 5
  | .tup xs => lnA xs + 4
  | .lst xs => lnA xs + 4
  | _ => 0
def lnA : List D → Nat
  | [] => 0
  | d :: ds => lnB d + 2 + lnA ds
end
mutual
def dpB : D → Nat
  | .tup xs => dpA xs + 1
  | .lst xs => dpA xs + 1
  | _ => 0
def dpA : List D → Nat
  | [] => 0
  | d :: ds => max (dpB d) (dpA ds)
end
theorem tupText_le (ts : List Str) : (tupleText ts).length ≤ piled ts + 4 := by
  unfold tupleText
  rw [Str.length_append, Str.length_append]
  have h1 : (("(" : Str)).length = 1 := by decide
  have h2 : (Str.ofString (if (ts.length == 1) = true then ",)" else ")")).length ≤ 2 := by split <;> decide
  have h3 : (Str.join ", " ts).length ≤ piled ts := by
    cases ts with
    | nil => decide
    | cons a b =>
      have := join_length_add (a :: b) (by simp)
      omega
  omega
mutual
theorem sm_toP : ∀ d : D, smB d = true → ∃ p, toP d = some p ∧ p.showable = true ∧ p.hasDict = false ∧ p.depth ≤ dpB d ∧ p.shown.length ≤ lnB d
  | .int i, h => by
    have hi : i.natAbs < 1000 := by simpa [smB] using h
    refine ⟨.int i, rfl, ?_, rfl, Nat.le_refl _, ?_⟩
    · have := Nat.log2_le_self i.natAbs
      simp only [PySem.PyData.showable, decide_eq_true_eq]
      omega
    · have := PyProof.Rows.len_str_of_int i
      show (Str.ofString (toString i)).length ≤ i.natAbs + 2
      omega
  | .non, _ => ⟨.none, rfl, rfl, rfl, Nat.le_refl _, by decide⟩
  | .bl b, _ => ⟨.bool b, rfl, rfl, rfl, Nat.le_refl _, by cases b <;> decide⟩
  | .tup xs, h => by
    obtain ⟨ps, e, h1, h2, h3, h4⟩ := sm_toPs xs (by simpa [smB] using h)
    refine ⟨.tuple ps, by simp [toP, e], by simpa [PySem.PyData.showable] using h1, by simpa [PySem.PyData.hasDict] using h2, ?_, ?_⟩
    · show PySem.PyData.depthAll ps + 1 ≤ dpA xs + 1
      omega
    · have z := tupText_le (PySem.PyData.shownAll ps)
      show (tupleText (PySem.PyData.shownAll ps)).length ≤ lnA xs + 4
      omega
  | .lst _, h => by simp [smB] at h
  | .str _, h => by simp [smB] at h
  | .dic _ _, h => by simp [smB] at h
  | .ins _ _ _, h => by simp [smB] at h
  | .exc _ _ _, h => by simp [smB] at h
  | .fnv _, h => by simp [smB] at h
  | .lam _, h => by simp [smB] at h
  | .dit _ _, h => by simp [smB] at h
theorem sm_toPs : ∀ ds : List D, smA ds = true → ∃ ps, toPs ds = some ps ∧ PySem.PyData.showableAll ps = true ∧ PySem.PyData.hasDictAll ps = false ∧ PySem.PyData.depthAll ps ≤ dpA ds ∧ piled (PySem.PyData.shownAll ps) ≤ lnA ds
  | [], _ => ⟨[], rfl, rfl, rfl, Nat.le_refl _, Nat.le_refl _⟩
  | d :: ds, h => by
    simp only [smA, Bool.and_eq_true] at h
    obtain ⟨p, e, h1, h2, h3, h4⟩ := sm_toP d h.1
    obtain ⟨ps, e', g1, g2, g3, g4⟩ := sm_toPs ds h.2
    refine ⟨p :: ps, by simp [toPs, e, e'], by simp [PySem.PyData.showableAll, h1, g1], by simp [PySem.PyData.hasDictAll, h2, g2], ?_, ?_⟩
    · simp only [PySem.PyData.depthAll, dpA]
      omega
    · simp only [PySem.PyData.shownAll, lnA]
      rw [piled_cons]
      omega
end
theorem lnA_le {M : Nat} : ∀ {ds : List D}, (∀ d ∈ ds, lnB d ≤ M) → lnA ds ≤ ds.length * (M + 2)
  | [], _ => Nat.zero_le _
  | d :: ds, h => by
    have h1 := h d List.mem_cons_self
    have h2 := lnA_le (M := M) (ds := ds) fun e he => h e (List.mem_cons_of_mem _ he)
    simp only [lnA, List.length_cons]
    rw [Nat.succ_mul]
    omega
theorem dpA_le {M : Nat} : ∀ {ds : List D}, (∀ d ∈ ds, dpB d ≤ M) → dpA ds ≤ M
  | [], _ => Nat.zero_le _
  | d :: ds, h => by
    have h1 := h d List.mem_cons_self
    have h2 := dpA_le (M := M) (ds := ds) fun e he => h e (List.mem_cons_of_mem _ he)
    simp only [dpA]
    omega
theorem smA_of : ∀ {ds : List D}, (∀ d ∈ ds, smB d = true) → smA ds = true
  | [], _ => rfl
  | d :: ds, h => by simp only [smA, Bool.and_eq_true]; exact ⟨h d List.mem_cons_self, smA_of fun e he => h e (List.mem_cons_of_mem _ he)⟩
/-- a list made by drawing -/
theorem compM_gen {step : D → Nat → (Option D → Nat → Prop) → Prop} {c N : Nat} {good : D → D → Prop} : ∀ (xs : List D) (n : Nat) (P : List D → Nat → Prop), n + c * xs.length ≤ N →
    (∀ x ∈ xs, ∀ (m : Nat) (k : Option D → Nat → Prop), m + c ≤ N → (∀ d m', m' ≤ m + c → good x d → k (some d) m') → step x m k) →
    (∀ (ds : List D) (m' : Nat), m' ≤ n + c * xs.length → ds.length = xs.length → (∀ (i : Nat) (x d : D), xs[i]? = some x → ds[i]? = some d → good x d) → P ds m') → compM step xs n P
  | [], n, P, _, _, h => h [] n (by simp) rfl fun i x d e => by simp at e
  | x :: xs, n, P, hN, hs, h => by
    have e : c * (x :: xs).length = c * xs.length + c := by rw [List.length_cons, Nat.mul_succ]
    rw [e] at hN
    refine hs x List.mem_cons_self n _ (by omega) fun d m' hm hd => ?_
    refine compM_gen xs m' _ (by omega) (fun y hy => hs y (List.mem_cons_of_mem _ hy)) fun ds m2 h2 hl hg => ?_
    refine h (d :: ds) m2 (by rw [e]; omega) (by simp [hl]) fun i y d' e1 e2 => ?_
    cases i with
    | zero =>
      simp at e1 e2
      rw [← e1, ← e2]
      exact hd
    | succ i => exact hg i y d' (by simpa using e1) (by simpa using e2)
theorem rowB_of {ks cs : List D} (hl : cs.length = ks.length) (h : ∀ (i : Nat) (k c : D), ks[i]? = some k → cs[i]? = some c → cellB k c = true) : rowB ks (.tup cs) = true := by
  simp only [rowB, Bool.and_eq_true, decide_eq_true_eq, List.all_eq_true]
  refine ⟨hl, fun p hp => ?_⟩
  obtain ⟨i, hi, rfl⟩ := List.mem_iff_getElem.mp hp
  have e : (ks.zip cs)[i]? = some (ks.zip cs)[i] := List.getElem?_eq_getElem hi
  obtain ⟨e1, e2⟩ := List.getElem?_zip_eq_some.mp e
  exact h i _ _ e1 e2
theorem cell_nx {k d : D} (h : cellB k d = true) : nx d = true := by
  cases d <;> first | rfl | (simp [cellB] at h)
theorem row_nx {ks : List D} {d : D} (h : rowB ks d = true) : nx d = true := by
  obtain ⟨cs, rfl, hl, hc⟩ := rowB_inv h
  show nxs cs = true
  refine nxs_of fun c hm => ?_
  obtain ⟨j, hj, rfl⟩ := List.mem_iff_getElem.mp hm
  have hj' : j < ks.length := by omega
  exact cell_nx (hc j _ _ (List.getElem?_eq_getElem hj') (List.getElem?_eq_getElem hj))
theorem range_len {m : Nat} : (rangeD 0 (m : Int).toNat).length = m := by simp [rangeD]
theorem range_mem {m : Nat} {x : D} (h : x ∈ rangeD 0 (m : Int).toNat) : ∃ i : Nat, i < m ∧ x = .int (i : Int) := by
  unfold rangeD at h
  rw [Int.toNat_natCast] at h
  obtain ⟨i, hi, rfl⟩ := List.mem_map.mp h
  exact ⟨i, List.mem_range.mp hi, by simp⟩
theorem range_get {m i : Nat} {x : D} (h : (rangeD 0 (m : Int).toNat)[i]? = some x) : i < m ∧ x = .int (i : Int) := by
  unfold rangeD at h
  rw [Int.toNat_natCast, List.getElem?_map] at h
  cases e : (List.range m)[i]? with
  | none => rw [e] at h; cases h
  | some j =>
    rw [e] at h
    obtain ⟨h3, h4⟩ := List.getElem?_eq_some_iff.mp e
    simp at h3 h4
    subst h4
    cases h
    exact ⟨h3, by simp⟩
theorem ix_nat {n j : Nat} (h : j < n) : ixN n (j : Int) = some j := by
  unfold ixN
  rw [if_pos (by omega), if_pos (by omega), Int.toNat_natCast]
theorem mem_set' {rs : List D} {v : Nat} {r : D} (hv : v < rs.length) : r ∈ rs.set v r := List.mem_iff_getElem.mpr ⟨v, by simpa using hv, by simp⟩
theorem put_set {cs : List D} {i : Nat} {d : D} (h : i < cs.length) : cs.take i ++ [d] ++ cs.drop (i + 1) = cs.set i d := by
  rw [List.set_eq_take_append_cons_drop, if_pos h]
  simp
theorem col_set {rs : List D} {v j : Nat} {r' : D} (h : colU rs j = false) (hv : v < rs.length) (e : atN r' j = atN rs[v] j) : colU (rs.set v r') j = false := by
  unfold colU at h ⊢
  rw [List.all_eq_false] at h ⊢
  obtain ⟨x, hx, hn⟩ := h
  obtain ⟨u, hu, rfl⟩ := List.mem_iff_getElem.mp hx
  by_cases huv : u = v
  · subst huv
    exact ⟨r', mem_set' hv, by rw [e]; exact hn⟩
  · exact ⟨rs[u], List.mem_iff_getElem.mpr ⟨u, by simpa using hu, by rw [List.getElem_set_ne (Ne.symm huv)]⟩, hn⟩
theorem atN_set {cs : List D} {i j : Nat} {d : D} (h : i ≠ j) : atN (.tup (cs.set i d)) j = atN (.tup cs) j := by
  show (cs.set i d).getD j .non = cs.getD j .non
  rw [List.getD_eq_getElem?_getD, List.getD_eq_getElem?_getD, List.getElem?_set_ne h]
theorem atN_self {cs : List D} {i : Nat} {d : D} (h : i < cs.length) : atN (.tup (cs.set i d)) i = d := by
  show (cs.set i d).getD i .non = d
  rw [List.getD_eq_getElem?_getD, List.getElem?_set_self h]
  rfl
theorem rowB_set {ks cs : List D} {i : Nat} {d k : D} (h : rowB ks (.tup cs) = true) (hk : ks[i]? = some k) (hd : cellB k d = true) : rowB ks (.tup (cs.set i d)) = true := by
  obtain ⟨cs', e, hl, hc⟩ := rowB_inv h
  cases e
  refine rowB_of (by simpa using hl) fun j k' c e1 e2 => ?_
  by_cases hj : i = j
  · subst hj
    have hi : i < cs.length := by
      have := (List.getElem?_eq_some_iff.mp hk).1
      omega
    rw [List.getElem?_set_self hi] at e2
    rw [hk] at e1
    cases e1
    cases e2
    exact hd
  · rw [List.getElem?_set_ne hj] at e2
    exact hc j k' c e1 e2
theorem upd_upd {H : L2.Hp} {p : Addr} {o u : L2.HO} : L2.upd (L2.upd H p o) p u = L2.upd H p u := by
  funext b
  by_cases h : b = p
  · rw [h, L2.upd_same, L2.upd_same]
  · rw [L2.upd_ne h, L2.upd_ne h, L2.upd_ne h]
def absI (z : Int) : Int := if z < 0 then -z else z
def bigI (ys : List Int) : List Int := (ys.filter fun y => decide ((10 : Int) ^ 18 ≤ y)).map fun y => y - 10 ^ 18
theorem bigI_snoc {ys : List Int} {y : Int} : bigI (ys ++ [y]) = if (10 : Int) ^ 18 ≤ y then bigI ys ++ [y - 10 ^ 18] else bigI ys := by
  unfold bigI
  rw [List.filter_append, List.map_append]
  by_cases h : (10 : Int) ^ 18 ≤ y
  · rw [if_pos h, List.filter_cons_of_pos (by simpa using h)]
    rfl
  · rw [if_neg h, List.filter_cons_of_neg (by simpa using h)]
    simp
theorem okR_bool (b : Bool) : okR (.bool b) := ⟨rfl, rfl, by cases b <;> decide, by cases b <;> decide⟩
/-! ### rows of ints, lots -/
theorem compM_sub {step : D → Nat → (Option D → Nat → Prop) → Prop} {c N : Nat} : ∀ (xs : List D) (n : Nat) (P : List D → Nat → Prop), n + c * xs.length ≤ N →
    (∀ x ∈ xs, ∀ (m : Nat) (k : Option D → Nat → Prop), m + c ≤ N → (∀ o m', m' ≤ m + c → (o = none ∨ o = some x) → k o m') → step x m k) →
    (∀ (ds : List D) (m' : Nat), m' ≤ n + c * xs.length → ds.Sublist xs → P ds m') → compM step xs n P
  | [], n, P, _, _, h => h [] n (by simp) .slnil
  | x :: xs, n, P, hN, hs, h => by
    have e : c * (x :: xs).length = c * xs.length + c := by rw [List.length_cons, Nat.mul_succ]
    rw [e] at hN
    refine hs x List.mem_cons_self n _ (by omega) fun o m' hm ho => ?_
    rcases ho with rfl | rfl
    · exact compM_sub xs m' _ (by omega) (fun y hy => hs y (List.mem_cons_of_mem _ hy)) fun ds m2 h2 hl => h ds m2 (by rw [e]; omega) (.cons _ hl)
    · exact compM_sub xs m' _ (by omega) (fun y hy => hs y (List.mem_cons_of_mem _ hy)) fun ds m2 h2 hl => h (x :: ds) m2 (by rw [e]; omega) (.cons_cons _ hl)
/-- the wrong values put in their places -/
def putsD (args : List D) (wrong : List D) : List D := wrong.foldl (fun a b => match b with | .tup [.int i, d, _] => a.set i.toNat d | _ => a) args
theorem puts_len : ∀ {wrong args : List D}, (putsD args wrong).length = args.length
  | [], _ => rfl
  | b :: l, args => by
    show (putsD _ l).length = _
    rw [puts_len]
    dsimp only
    split <;> simp
theorem puts_take {args wr : List D} {i : Nat} {j : Int} {d c : D} (h : wr[i]? = some (.tup [.int j, d, c])) : putsD args (wr.take (i + 1)) = (putsD args (wr.take i)).set j.toNat d := by
  rw [List.take_succ, h]
  unfold putsD
  rw [List.foldl_append]
  rfl
theorem len0 {xs : List D} : decide ((xs.length : Int) = 0) = xs.isEmpty := by
  cases xs with
  | nil => rfl
  | cons x t =>
    have : ¬ ((x :: t).length : Int) = 0 := by simp only [List.length_cons]; omega
    rw [decide_eq_false this]
    rfl
theorem firstU_none_inv {m : Nat} {rs : List D} (h : (firstU m rs).isNone = true) : ∀ j < m, colU rs j = false := fun j hj => by
  have z : firstU m rs = none := by simpa using h
  have := List.find?_range_eq_none.mp z j hj
  simpa using this
theorem kinds_nx {ks : List D} (h : kindsB (.tup ks) = true) : nxs ks = true := nxs_of fun d hd => by
  simp only [kindsB, Bool.and_eq_true, decide_eq_true_eq, List.all_eq_true] at h
  have z := h.2 d hd
  cases d <;> first | rfl | (simp [betw] at z)
theorem rows_nx {ks rs : List D} (h : rowsB ks (.tup rs) = true) : nxs rs = true := nxs_of fun d hd => by
  simp only [rowsB, Bool.and_eq_true, decide_eq_true_eq, List.all_eq_true] at h
  exact row_nx (h.1.2 d hd)
/-! ### tables made of tables -/
theorem sub_cons {α : Type} {x : α} {l w : List α} (h : w.Sublist (x :: l)) : w.Sublist l ∨ ∃ t, w = x :: t ∧ t.Sublist l := by
  cases h with
  | cons _ h => exact .inl h
  | cons_cons _ h => exact .inr ⟨_, rfl, h⟩
theorem sub_nil {α : Type} {w : List α} (h : w.Sublist []) : w = [] := by
  cases h
  rfl
/-! ### tables told over and over -/
/-! tables with cells unread -/
def cellO : D → Option Int
  | .int i => some i
  | _ => none
def fullB (rss : List (List (Option Int))) : Bool := rss.all fun r => r.all Option.isSome
def sortsL (rss : List (List (Option Int))) : List (List Int) := (grpT rss rss.length).map (·.2)
def colO (rss : List (List (Option Int))) (m : Nat) : List (Option Int) := rss.map fun r => r.getD m none
structure UsedO (rss : List (List (Option Int))) (m : Nat) (us : List Int) : Prop where
  asc : us.Pairwise (· < ·)
  mem : ∀ c, c ∈ us ↔ some c ∈ colO rss m
def inU (us : List Int) : D → Bool
  | .int i => decide (i ∈ us)
  | _ => false
def havL (rss : List (List (Option Int))) (m : Nat) (x : Int) : List Int := ((List.range rss.length).filter fun j => decide ((colO rss m)[j]? = some (some x))).map fun (j : Nat) => (j : Int)
structure TabN (kn : List Int) (rss : List (List (Option Int))) : Prop where
  kl : 1 ≤ kn.length ∧ kn.length ≤ 8
  kb : ∀ k ∈ kn, 1 ≤ k ∧ k ≤ 6
  rl : 1 ≤ rss.length ∧ rss.length ≤ 12
  rw : ∀ r ∈ rss, r.length = kn.length
  cb : ∀ r ∈ rss, ∀ (m : Nat) (k c : Int), kn[m]? = some k → r[m]? = some (some c) → 0 ≤ c ∧ c ≤ k - 1
  un : ∀ m, m < kn.length → ∃ r ∈ rss, ∃ c : Int, r[m]? = some (some c)
theorem oD_cell {k d : D} (h : cellB k d = true) : oD (cellO d) = d := by
  unfold cellB at h
  cases d with
  | non => rfl
  | int i => rfl
  | _ => cases k <;> cases h
theorem row_form {ks : List D} {d : D} (h : rowB ks d = true) : ∃ r : List (Option Int), d = rowD r ∧ r.length = ks.length ∧ ∀ (m : Nat) (k c : Int), ks[m]? = some (.int k) → r[m]? = some (some c) → 0 ≤ c ∧ c ≤ k - 1 := by
  obtain ⟨cs, rfl, hl, hc⟩ := rowB_inv h
  refine ⟨cs.map cellO, ?_, by rw [List.length_map, hl], fun m k c hk hr => ?_⟩
  · unfold rowD
    rw [List.map_map]
    congr 1
    refine (List.map_id cs).symm.trans (List.map_congr_left fun c hm => ?_)
    obtain ⟨j, hj⟩ := List.mem_iff_getElem?.mp hm
    have hlt : j < ks.length := by rw [← hl]; exact (List.getElem?_eq_some_iff.mp hj).1
    exact (oD_cell (hc j _ c (List.getElem?_eq_getElem hlt) hj)).symm
  · rw [List.getElem?_map] at hr
    obtain ⟨x, hx, e⟩ := Option.map_eq_some_iff.mp hr
    have z := hc m _ x hk hx
    cases x with
    | int i =>
      obtain rfl : i = c := Option.some.inj e
      simp only [cellB, Bool.and_eq_true, decide_eq_true_eq] at z
      exact z
    | _ => cases e
theorem ints_all0 {p : Int → Prop} : ∀ {ds : List D}, (∀ d ∈ ds, ∃ v : Int, d = .int v ∧ p v) → ∃ q : List Int, ds = q.map D.int ∧ ∀ v ∈ q, p v
  | [], _ => ⟨[], rfl, fun v hv => nomatch hv⟩
  | d :: ds, h => by
    obtain ⟨v, rfl, hv⟩ := h d List.mem_cons_self
    obtain ⟨q, rfl, hq⟩ := ints_all0 fun e he => h e (List.mem_cons_of_mem _ he)
    exact ⟨v :: q, rfl, fun w hw => by
      rcases List.mem_cons.mp hw with rfl | hw
      · exact hv
      · exact hq w hw⟩
theorem tab_form {ks rs : List D} (hk : kindsB (.tup ks) = true) (hr : rowsB ks (.tup rs) = true) : ∃ kn rss, ks = kn.map D.int ∧ rs = rss.map rowD ∧ TabN kn rss := by
  simp only [kindsB, Bool.and_eq_true, decide_eq_true_eq, List.all_eq_true] at hk
  simp only [rowsB, Bool.and_eq_true, decide_eq_true_eq, List.all_eq_true] at hr
  obtain ⟨⟨k1, k8⟩, kb⟩ := hk
  obtain ⟨⟨⟨r1, r12⟩, rb⟩, ru⟩ := hr
  obtain ⟨kn, rfl, kk⟩ : ∃ kn : List Int, ks = kn.map D.int ∧ ∀ k ∈ kn, 1 ≤ k ∧ k ≤ 6 := by
    refine ints_all0 fun d hd => ?_
    have z := kb d hd
    cases d with
    | int i =>
      simp only [betw, Bool.and_eq_true, decide_eq_true_eq] at z
      exact ⟨i, rfl, z⟩
    | _ => cases z
  obtain ⟨rss, rfl, rr⟩ : ∃ rss : List (List (Option Int)), rs = rss.map rowD ∧ ∀ r ∈ rss, r.length = kn.length ∧ ∀ (m : Nat) (k c : Int), kn[m]? = some k → r[m]? = some (some c) → 0 ≤ c ∧ c ≤ k - 1 := by
    clear r1 r12 ru
    induction rs with
    | nil => exact ⟨[], rfl, fun r hr => nomatch hr⟩
    | cons d rs ih =>
      obtain ⟨rss, e, g⟩ := ih fun x hx => rb x (List.mem_cons_of_mem _ hx)
      obtain ⟨r, rfl, q1, q2⟩ := row_form (rb d List.mem_cons_self)
      refine ⟨r :: rss, by rw [List.map_cons, e], fun x hx => ?_⟩
      rcases List.mem_cons.mp hx with rfl | hx
      · exact ⟨by rw [q1, List.length_map], fun m k c hk hc => q2 m k c (by rw [List.getElem?_map, hk]; rfl) hc⟩
      · exact g x hx
  rw [List.length_map] at k1 k8 r1 r12 ru
  refine ⟨kn, rss, rfl, rfl, ⟨k1, k8⟩, kk, ⟨r1, r12⟩, fun r hr => (rr r hr).1, fun r hr => (rr r hr).2, fun m hm => ?_⟩
  have z := firstU_none_inv ru m hm
  unfold colU at z
  obtain ⟨d, hd, hn⟩ := List.all_eq_false.mp z
  obtain ⟨r, hr, rfl⟩ := List.mem_map.mp hd
  have hl := (rr r hr).1
  refine ⟨r, hr, ?_⟩
  have e : atN (rowD r) m = oD r[m] := by
    show ((r.map oD)[m]?).getD .non = _
    rw [List.getElem?_map, List.getElem?_eq_getElem (by omega)]
    rfl
  rw [e] at hn
  cases h : r[m] with
  | none => rw [h] at hn; exact absurd rfl hn
  | some c => exact ⟨c, by rw [List.getElem?_eq_getElem (by omega), h]⟩

theorem row_at {r : List (Option Int)} {m : Nat} (h : m < r.length) : (r.map oD)[m]? = some (oD (r.getD m none)) := by
  rw [List.getElem?_map, List.getD_eq_getElem?_getD, List.getElem?_eq_getElem h]
  rfl
def oP : Option Int → PySem.PyData
  | none => .none
  | some i => .int i
theorem toPs_row : ∀ r : List (Option Int), toPs (r.map oD) = some (r.map oP)
  | [] => rfl
  | x :: r => by
    show (match toP (oD x), toPs (r.map oD) with | some p, some ps => some (p :: ps) | _, _ => none) = _
    rw [toPs_row r]
    cases x <;> rfl
theorem toP_row (r : List (Option Int)) : toP (rowD r) = some (.tuple (r.map oP)) := by
  show (toPs (r.map oD)).map PySem.PyData.tuple = _
  rw [toPs_row]
  rfl
theorem lay_row : ∀ r : List (Option Int), PySem.PyData.canLayAll0 (r.map oP) = true
  | [] => by simp [PySem.PyData.canLayAll0]
  | x :: r => by cases x <;> simp [PySem.PyData.canLayAll0, oP, PySem.PyData.canLay0, lay_row r]
theorem depth_row : ∀ r : List (Option Int), PySem.PyData.depthAll (r.map oP) ≤ 1
  | [] => by simp [PySem.PyData.depthAll]
  | x :: r => by
    have := depth_row r
    cases x <;> simp [PySem.PyData.depthAll, oP, PySem.PyData.depth] <;> omega
theorem shaped_row (r : List (Option Int)) : SeqAt.shaped (.tuple (r.map oP)) = true := by
  unfold SeqAt.shaped
  have := depth_row r
  simp [PySem.PyData.canLay0, lay_row r, PySem.PyData.depth]
  omega
theorem lay_rows : ∀ rss : List (List (Option Int)), PySem.PyData.canLayAll0 (rss.map fun r => .tuple (r.map oP)) = true
  | [] => by simp [PySem.PyData.canLayAll0]
  | r :: rss => by simp [PySem.PyData.canLayAll0, PySem.PyData.canLay0, lay_row r]; exact lay_rows rss
theorem depth_rows : ∀ rss : List (List (Option Int)), PySem.PyData.depthAll (rss.map fun r => .tuple (r.map oP)) ≤ 2
  | [] => by simp [PySem.PyData.depthAll]
  | r :: rss => by
    have z := depth_rows rss
    have z2 := depth_row r
    simp [PySem.PyData.depthAll, PySem.PyData.depth]
    omega
theorem shaped_rows (rss : List (List (Option Int))) : SeqAt.shaped (.tuple (rss.map fun r => .tuple (r.map oP))) = true := by
  unfold SeqAt.shaped
  have := depth_rows rss
  simp [PySem.PyData.canLay0, lay_rows rss, PySem.PyData.depth]
  omega
theorem toPs_rows : ∀ rss : List (List (Option Int)), toPs (rss.map rowD) = some (rss.map fun r => .tuple (r.map oP))
  | [] => rfl
  | r :: rss => by
    show (match toP (rowD r), toPs (rss.map rowD) with | some p, some ps => some (p :: ps) | _, _ => none) = _
    rw [toPs_rows rss, toP_row]
    rfl
theorem toP_rows (rss : List (List (Option Int))) : toP (.tup (rss.map rowD)) = some (.tuple (rss.map fun r => .tuple (r.map oP))) := by
  show (toPs (rss.map rowD)).map PySem.PyData.tuple = _
  rw [toPs_rows]
  rfl
theorem eqv_o (a b : Option Int) : (oP a).eqv (oP b) = decide (a = b) := by
  cases a with
  | none => cases b <;> simp [oP, PySem.PyData.eqv]
  | some i =>
    cases b with
    | none => simp [oP, PySem.PyData.eqv]
    | some j =>
      by_cases h : i = j
      · subst h; simp [oP, PySem.PyData.eqv]
      · simp [oP, PySem.PyData.eqv, h]
theorem eqvAll_row : ∀ (a b : List (Option Int)), PySem.PyData.eqvAll (a.map oP) (b.map oP) = decide (a = b)
  | [], [] => by simp [PySem.PyData.eqvAll]
  | [], _ :: _ => by simp [PySem.PyData.eqvAll]
  | _ :: _, [] => by simp [PySem.PyData.eqvAll]
  | x :: a, y :: b => by
    simp only [List.map_cons, PySem.PyData.eqvAll, eqv_o, eqvAll_row a b]
    by_cases h : x = y
    · subst h; simp
    · simp [h]
theorem eqv_row (a b : List (Option Int)) : PySem.PyData.eqv (.tuple (a.map oP)) (.tuple (b.map oP)) = decide (a = b) := by
  simp only [PySem.PyData.eqv]
  exact eqvAll_row a b
theorem eqvAll_rows : ∀ (a b : List (List (Option Int))), PySem.PyData.eqvAll (a.map fun r => .tuple (r.map oP)) (b.map fun r => .tuple (r.map oP)) = decide (a = b)
  | [], [] => by simp [PySem.PyData.eqvAll]
  | [], _ :: _ => by simp [PySem.PyData.eqvAll]
  | _ :: _, [] => by simp [PySem.PyData.eqvAll]
  | x :: a, y :: b => by
    simp only [List.map_cons, PySem.PyData.eqvAll, eqv_row, eqvAll_rows a b]
    by_cases h : x = y
    · subst h; simp
    · simp [h]
theorem eqP_row {g : Bool → Bool} {a b : List (Option Int)} {k : D → Prop} (h : k (.bl (g (decide (a = b))))) : eqP g (rowD a) (rowD b) k := by
  refine ⟨_, _, toP_row a, toP_row b, shaped_row a, shaped_row b, ?_⟩
  rw [eqv_row]
  exact h
theorem eqP_rows {g : Bool → Bool} {a b : List (List (Option Int))} {k : D → Prop} (h : k (.bl (g (decide (a = b))))) : eqP g (.tup (a.map rowD)) (.tup (b.map rowD)) k := by
  refine ⟨_, _, toP_rows a, toP_rows b, shaped_rows a, shaped_rows b, ?_⟩
  simp only [PySem.PyData.eqv]
  rw [eqvAll_rows]
  exact h
theorem any_none : ∀ r : List (Option Int), (!((r.map oP).any fun z => z.eqv .none)) = r.all Option.isSome
  | [] => rfl
  | x :: r => by
    have := any_none r
    rw [List.map_cons, List.any_cons, Bool.not_or, this, List.all_cons]
    cases x <;> simp [oP, PySem.PyData.eqv]
def fullD : D → Bool
  | .tup xs => (xs.map cellO).all Option.isSome
  | _ => true
theorem cell_o (r : List (Option Int)) : (r.map oD).map cellO = r := by
  rw [List.map_map]
  exact (List.map_congr_left fun x _ => by cases x <;> rfl).trans (List.map_id r)
theorem fullD_row (r : List (Option Int)) : fullD (rowD r) = r.all Option.isSome := by
  show ((r.map oD).map cellO).all Option.isSome = _
  rw [cell_o]
theorem fullD_rows (rss : List (List (Option Int))) : (rss.map rowD).all fullD = fullB rss := by
  unfold fullB
  rw [List.all_map]
  congr 1
  funext r
  exact fullD_row r
theorem atN_row {r : List (Option Int)} {m : Nat} (h : m < r.length) : atN (rowD r) m = oD (r.getD m none) := by
  show ((r.map oD)[m]?).getD .non = _
  rw [row_at h]
  rfl
theorem col_rows {kn : List Int} {rss : List (List (Option Int))} (t : TabN kn rss) {m : Nat} (hm : m < kn.length) : (rss.map rowD).map (fun x => atN x m) = (colO rss m).map oD := by
  unfold colO
  rw [List.map_map, List.map_map]
  exact List.map_congr_left fun r hr => atN_row (by rw [t.rw r hr]; exact hm)
def someF (x : D) : Option D := if DL.isNon x then none else some x
def someL (xs : List (Option Int)) : List Int := xs.filterMap id
theorem someF_map : ∀ xs : List (Option Int), (xs.map oD).filterMap someF = (someL xs).map D.int
  | [] => rfl
  | none :: xs => someF_map xs
  | some i :: xs => by
    show D.int i :: (xs.map oD).filterMap someF = D.int i :: (someL xs).map D.int
    rw [someF_map xs]
theorem someL_mem {xs : List (Option Int)} {c : Int} : c ∈ someL xs ↔ some c ∈ xs := by
  unfold someL
  rw [List.mem_filterMap]
  constructor
  · rintro ⟨a, h, e⟩
    have e : a = some c := e
    rwa [e] at h
  · intro h
    exact ⟨_, h, rfl⟩
theorem someL_len (xs : List (Option Int)) : (someL xs).length ≤ xs.length := List.length_filterMap_le ..
theorem betw_nat {k : Nat} {v : D} (h : betw 0 ((k : Int) - 1) v = true) : ∃ m : Nat, v = .int (m : Int) ∧ m < k := by
  cases v with
  | int i =>
    simp only [betw, Bool.and_eq_true, decide_eq_true_eq] at h
    exact ⟨i.toNat, by rw [Int.toNat_of_nonneg (by omega)], by omega⟩
  | _ => cases h
theorem inU_int {us : List Int} {c : D} (h : inU us c = true) : ∃ x, c = .int x ∧ x ∈ us := by
  cases c with
  | int i => exact ⟨i, rfl, of_decide_eq_true h⟩
  | _ => cases h

theorem asc_ex : ∀ xs : List Int, ∃ us : List Int, us.Pairwise (· < ·) ∧ ∀ c, c ∈ us ↔ c ∈ xs
  | [] => ⟨[], .nil, fun _ => Iff.rfl⟩
  | x :: xs => by
    obtain ⟨us, h1, h2⟩ := asc_ex xs
    refine ⟨us.filter (fun c => decide (c < x)) ++ x :: us.filter (fun c => decide (x < c)), List.pairwise_append.mpr ⟨h1.filter _, List.pairwise_cons.mpr ⟨fun c hc => ?_, h1.filter _⟩, fun a ha b hb => ?_⟩, fun c => ?_⟩
    · exact of_decide_eq_true (List.mem_filter.mp hc).2
    · have ha2 : a < x := of_decide_eq_true (List.mem_filter.mp ha).2
      rcases List.mem_cons.mp hb with rfl | hb
      · exact ha2
      · have hb2 : x < b := of_decide_eq_true (List.mem_filter.mp hb).2
        omega
    · rw [List.mem_append, List.mem_cons, List.mem_cons, List.mem_filter, List.mem_filter, h2, decide_eq_true_eq, decide_eq_true_eq]
      constructor
      · rintro (⟨h, _⟩ | rfl | ⟨h, _⟩)
        · exact .inr h
        · exact .inl rfl
        · exact .inr h
      · rintro (rfl | h)
        · exact .inr (.inl rfl)
        · rcases Int.lt_trichotomy c x with q | q | q
          · exact .inl ⟨h, q⟩
          · exact .inr (.inl q)
          · exact .inr (.inr ⟨h, q⟩)
theorem used_ex (rss : List (List (Option Int))) (m : Nat) : ∃ us, UsedO rss m us := by
  obtain ⟨us, h1, h2⟩ := asc_ex (someL (colO rss m))
  exact ⟨us, h1, fun c => (h2 c).trans someL_mem⟩
theorem used_one {rss : List (List (Option Int))} {m : Nat} {us vs : List Int} (h : UsedO rss m us) (g : UsedO rss m vs) : us = vs := by
  refine (((List.perm_ext_iff_of_nodup (h.asc.imp fun h => by omega) (g.asc.imp fun h => by omega)).mpr fun c => (h.mem c).trans (g.mem c).symm).eq_of_pairwise (le := (· < ·)) (fun a b _ _ x y => by omega) h.asc g.asc)
def havF (m : Nat) (x : Int) : D → Option D
  | .tup [a, r] => if cellO (atN r m) = some x then some a else none
  | _ => none
theorem havF_at {a : D} {r : List (Option Int)} {m : Nat} {x : Int} (h : m < r.length) : havF m x (.tup [a, rowD r]) = if r.getD m none = some x then some a else none := by
  show (if cellO (atN (rowD r) m) = some x then some a else none) = _
  rw [atN_row h]
  cases r.getD m none <;> rfl
theorem enum_rows {rss : List (List (Option Int))} {y : D} (h : y ∈ enumD 0 (rss.map rowD)) : ∃ (j : Nat) (r : List (Option Int)), rss[j]? = some r ∧ y = .tup [.int (j : Int), rowD r] := by
  obtain ⟨j, hj⟩ := List.mem_iff_getElem?.mp h
  rw [enumD_get, List.getElem?_map, Nat.zero_add] at hj
  obtain ⟨d, hd, rfl⟩ := Option.map_eq_some_iff.mp hj
  obtain ⟨r, hr, rfl⟩ := Option.map_eq_some_iff.mp hd
  exact ⟨j, r, hr, rfl⟩
theorem eqP_cell {g : Bool → Bool} {c : Option Int} {x : Int} {k : D → Prop} (h : k (.bl (g (decide (c = some x))))) : eqP g (oD c) (.int x) k := by
  cases c with
  | none =>
    have e : decide ((none : Option Int) = some x) = false := rfl
    rw [e] at h
    exact ⟨.none, .int x, rfl, rfl, by decide, rfl, by simpa [PySem.PyData.eqv] using h⟩
  | some i =>
    have e : decide (some i = some x) = decide (i = x) := by
      by_cases h : i = x
      · subst h; simp
      · simp [h]
    rw [e] at h
    exact h
theorem hav_gen (p : D → Option D) (q : Option Int → Bool) : ∀ (xs : List D) (os : List (Option Int)) (k : Nat), xs.length = os.length → (∀ (j : Nat) (a d : D) (o : Option Int), xs[j]? = some d → os[j]? = some o → p (.tup [a, d]) = if q o = true then some a else none) →
    (enumD k xs).filterMap p = (((List.range os.length).filter fun j => q (os.getD j none)).map fun (j : Nat) => D.int ((k + j : Nat) : Int))
  | [], [], k, _, _ => rfl
  | [], _ :: _, _, e, _ => by cases e
  | _ :: _, [], _, e, _ => by cases e
  | x :: xs, o :: os, k, e, h => by
    have ih := hav_gen p q xs os (k + 1) (by simpa using e) fun j a d o' h1 h2 => h (j + 1) a d o' (by simpa using h1) (by simpa using h2)
    show (D.tup [.int (k : Nat), x] :: enumD (k + 1) xs).filterMap p = _
    rw [List.filterMap_cons, h 0 _ x o rfl rfl, ih, List.length_cons, List.range_succ_eq_map, List.filter_cons, List.filter_map]
    have e1 : ((o :: os).getD 0 none) = o := rfl
    have e2 : ∀ l : List Nat, ((l.filter ((fun j => q ((o :: os).getD j none)) ∘ Nat.succ)).map Nat.succ).map (fun (j : Nat) => D.int ((k + j : Nat) : Int)) = (l.filter fun j => q (os.getD j none)).map fun (j : Nat) => D.int ((k + 1 + j : Nat) : Int) := fun l => by
      rw [List.map_map]
      have e3 : ((fun j => q ((o :: os).getD j none)) ∘ Nat.succ) = fun j => q (os.getD j none) := by
        funext j
        rfl
      rw [e3]
      refine List.map_congr_left fun j _ => ?_
      show D.int ((k + (j + 1) : Nat) : Int) = _
      congr 2
      omega
    rw [e1]
    cases hq : q o with
    | true =>
      rw [if_pos rfl, if_pos rfl, List.map_cons, e2]
      rfl
    | false => rw [if_neg (by decide), if_neg (by decide), e2]
theorem havL_eq {rss : List (List (Option Int))} {m : Nat} {x : Int} : (havL rss m x).map D.int = ((List.range (colO rss m).length).filter fun j => decide ((colO rss m).getD j none = some x)).map fun (j : Nat) => D.int ((0 + j : Nat) : Int) := by
  unfold havL
  have cl : (colO rss m).length = rss.length := List.length_map ..
  rw [List.map_map, cl]
  have e : (List.range rss.length).filter (fun j => decide ((colO rss m)[j]? = some (some x))) = (List.range rss.length).filter (fun j => decide ((colO rss m).getD j none = some x)) := by
    refine List.filter_congr fun j hj => ?_
    have := List.mem_range.mp hj
    rw [List.getD_eq_getElem?_getD, List.getElem?_eq_getElem (by omega)]
    refine decide_eq_decide.mpr ⟨fun h => Option.some.inj h, fun h => congrArg some h⟩
  rw [e]
  refine List.map_congr_left fun j _ => ?_
  show D.int (j : Int) = _
  rw [Nat.zero_add]
theorem havF_map {kn : List Int} {rss : List (List (Option Int))} (t : TabN kn rss) {m : Nat} (hm : m < kn.length) {x : Int} : (enumD 0 (rss.map rowD)).filterMap (havF m x) = (havL rss m x).map D.int := by
  rw [havL_eq]
  refine hav_gen _ (fun o => decide (o = some x)) _ _ 0 (by rw [List.length_map]; exact (List.length_map ..).symm) fun j a d o h1 h2 => ?_
  rw [List.getElem?_map] at h1
  obtain ⟨r, hr, rfl⟩ := Option.map_eq_some_iff.mp h1
  have hl : m < r.length := by rw [t.rw r (List.mem_of_getElem? hr)]; exact hm
  unfold colO at h2
  rw [List.getElem?_map, hr] at h2
  obtain rfl := Option.some.inj h2
  rw [havF_at hl]
  by_cases e : r.getD m none = some x
  · rw [if_pos e, if_pos (decide_eq_true e)]
  · rw [if_neg e, if_neg (by simpa using e)]
def havG (x : Int) : D → Option D
  | .tup [a, c] => if cellO c = some x then some a else none
  | _ => none
theorem havG_map {rss : List (List (Option Int))} {m : Nat} {x : Int} : (enumD 0 ((colO rss m).map oD)).filterMap (havG x) = (havL rss m x).map D.int := by
  rw [havL_eq]
  refine hav_gen _ (fun o => decide (o = some x)) _ _ 0 (by rw [List.length_map]) fun j a d o h1 h2 => ?_
  rw [List.getElem?_map, h2] at h1
  obtain rfl := Option.some.inj h1
  show (if cellO (oD o) = some x then some a else none) = _
  have e : cellO (oD o) = o := by cases o <;> rfl
  rw [e]
  by_cases e : o = some x
  · rw [if_pos e, if_pos (decide_eq_true e)]
  · rw [if_neg e, if_neg (by simpa using e)]

theorem any_in0 {xs : List Int} {v : Int} : (xs.any fun z => z == v) = decide (v ∈ xs) := by
  rw [Bool.eq_iff_iff, List.any_eq_true, decide_eq_true_eq]
  constructor
  · rintro ⟨z, hz, e⟩
    have e : z = v := by simpa using e
    rwa [← e]
  · intro h
    exact ⟨v, h, by simp⟩
/-! valleys put together -/
abbrev Rows := List (List (Option Int))
def freshB (rss : Rows) (at0 : Nat) : Bool := !decide (rss.getD at0 [] ∈ rss.take at0)
def eqsN (rss : Rows) (i at0 : Nat) : List Int := ((List.range i).filter fun j => decide (rss.getD j [] = rss.getD at0 [])).map fun (j : Nat) => (j : Int)
theorem take_mem {rss : Rows} {r : List (Option Int)} {i : Nat} (hi : i ≤ rss.length) : r ∈ rss.take i ↔ ∃ j, j < i ∧ rss.getD j [] = r := by
  constructor
  · intro h
    obtain ⟨j, hj⟩ := List.mem_iff_getElem?.mp h
    rw [List.getElem?_take] at hj
    split at hj
    · rename_i hlt
      exact ⟨j, hlt, by rw [List.getD_eq_getElem?_getD, hj]; rfl⟩
    · cases hj
  · rintro ⟨j, hj, e⟩
    refine List.mem_iff_getElem?.mpr ⟨j, ?_⟩
    rw [List.getElem?_take, if_pos hj, List.getElem?_eq_getElem (by omega)]
    rw [List.getD_eq_getElem?_getD, List.getElem?_eq_getElem (by omega)] at e
    exact congrArg some e
theorem first_of {rss : Rows} {r : List (Option Int)} : ∀ (j : Nat), j ≤ rss.length → rss.getD j [] = r → ∃ a, a ≤ j ∧ freshB rss a = true ∧ rss.getD a [] = r := by
  intro j
  induction j using Nat.strongRecOn with
  | _ j ih =>
    intro hj e
    cases hf : freshB rss j with
    | true => exact ⟨j, Nat.le_refl _, hf, e⟩
    | false =>
      have hm : rss.getD j [] ∈ rss.take j := by
        unfold freshB at hf
        simpa using hf
      obtain ⟨k, hk, e2⟩ := (take_mem hj).mp hm
      obtain ⟨a, ha, g1, g2⟩ := ih k hk (by omega) (e2.trans e)
      exact ⟨a, by omega, g1, g2⟩
def lawS (rss : Rows) (i : Nat) : List Nat := (List.range i).filter (freshB rss)
theorem grp_char {rss : Rows} : ∀ i, i ≤ rss.length → grpT rss i = (lawS rss i).map fun a => (rss.getD a [], eqsN rss i a)
  | 0, _ => rfl
  | i + 1, hi => by
    have ih := grp_char (rss := rss) i (by omega)
    have ek : (grpT rss i).map (·.1) = (lawS rss i).map fun a => rss.getD a [] := by rw [ih, List.map_map]; rfl
    have ls : lawS rss (i + 1) = lawS rss i ++ if freshB rss i = true then [i] else [] := by
      unfold lawS
      rw [List.range_succ, List.filter_append]
      congr 1
      cases h : freshB rss i <;> simp [h]
    have es : ∀ a, eqsN rss (i + 1) a = eqsN rss i a ++ if rss.getD i [] = rss.getD a [] then [(i : Int)] else [] := fun a => by
      unfold eqsN
      rw [List.range_succ, List.filter_append, List.map_append]
      congr 1
      by_cases h : rss.getD i [] = rss.getD a []
      · rw [if_pos h, List.filter_cons_of_pos (by simpa using h)]
        rfl
      · rw [if_neg h, List.filter_cons_of_neg (by simpa using h)]
        rfl
    have hmem : rss.getD i [] ∈ (grpT rss i).map (·.1) ↔ freshB rss i = false := by
      rw [ek, List.mem_map]
      constructor
      · rintro ⟨a, ha, e⟩
        have ha2 := List.mem_range.mp (List.mem_filter.mp ha).1
        unfold freshB
        have : rss.getD i [] ∈ rss.take i := (take_mem (rss := rss) (by omega)).mpr ⟨a, ha2, e⟩
        simpa using this
      · intro h
        have hm : rss.getD i [] ∈ rss.take i := by
          unfold freshB at h
          simpa using h
        obtain ⟨j, hj, e⟩ := (take_mem (rss := rss) (by omega)).mp hm
        obtain ⟨a, ha, g1, g2⟩ := first_of (rss := rss) j (by omega) e
        exact ⟨a, List.mem_filter.mpr ⟨List.mem_range.mpr (by omega), g1⟩, g2⟩
    rw [grpT_succ]
    unfold grpS
    by_cases hf : freshB rss i = true
    · rw [if_neg (fun z => by rw [hmem.mp z] at hf; cases hf), ls, if_pos hf, List.map_append, ih]
      have none : ∀ j, j < i → rss.getD j [] ≠ rss.getD i [] := fun j hj e => by
        have : rss.getD i [] ∈ rss.take i := (take_mem (rss := rss) (by omega)).mpr ⟨j, hj, e⟩
        unfold freshB at hf
        rw [decide_eq_true this] at hf
        cases hf
      congr 1
      · refine List.map_congr_left fun a ha => ?_
        have ha2 := List.mem_range.mp (List.mem_filter.mp ha).1
        rw [es a, if_neg (fun e => none a ha2 e.symm), List.append_nil]
      · show [(rss.getD i [], [(i : Int)])] = [(rss.getD i [], eqsN rss (i + 1) i)]
        rw [es i, if_pos rfl]
        have e0 : eqsN rss i i = [] := by
          unfold eqsN
          rw [List.filter_eq_nil_iff.mpr fun j hj => by simpa using none j (List.mem_range.mp hj)]
          rfl
        rw [e0]
        rfl
    · have hf' : freshB rss i = false := by simpa using hf
      rw [if_pos (hmem.mpr hf'), ls, if_neg hf, List.append_nil, ih, List.map_map]
      refine List.map_congr_left fun a ha => ?_
      show (if rss.getD a [] = rss.getD i [] then _ else _) = _
      rw [es a]
      by_cases e : rss.getD i [] = rss.getD a []
      · rw [if_pos e.symm, if_pos e]
      · rw [if_neg (fun z => e z.symm), if_neg e, List.append_nil]
theorem sorts_eq (rss : Rows) : sortsL rss = (lawS rss rss.length).map (eqsN rss rss.length) := by
  unfold sortsL
  rw [grp_char _ (Nat.le_refl _), List.map_map]
  rfl

theorem any_rows (a : List (Option Int)) : ∀ xs : Rows, ((xs.map fun r => PySem.PyData.tuple (r.map oP)).any fun z => z.eqv (.tuple (a.map oP))) = decide (a ∈ xs)
  | [] => rfl
  | x :: xs => by
    rw [List.map_cons, List.any_cons, eqv_row, any_rows a xs]
    rw [Bool.eq_iff_iff, Bool.or_eq_true, decide_eq_true_eq, decide_eq_true_eq, decide_eq_true_eq, List.mem_cons]
    exact or_congr ⟨Eq.symm, Eq.symm⟩ Iff.rfl
def rowO : D → List (Option Int)
  | .tup xs => xs.map cellO
  | _ => []
theorem rowO_row (r : List (Option Int)) : rowO (rowD r) = r := cell_o r
def eqF (r : List (Option Int)) : D → Option D
  | .tup [a, x] => if rowO x = r then some a else none
  | _ => none
theorem eqF_at {a : D} {r x : List (Option Int)} : eqF r (.tup [a, rowD x]) = if x = r then some a else none := by
  show (if rowO (rowD x) = r then some a else none) = _
  rw [rowO_row]
theorem enum_filter (p : D → Option D) (q : List (Option Int) → Bool) (h : ∀ a r, p (.tup [a, rowD r]) = if q r = true then some a else none) : ∀ (rss : Rows) (k : Nat),
    (enumD k (rss.map rowD)).filterMap p = (((List.range rss.length).filter fun j => q (rss.getD j [])).map fun (j : Nat) => D.int ((k + j : Nat) : Int))
  | [], k => rfl
  | x :: xs, k => by
    have ih := enum_filter p q h xs (k + 1)
    show (D.tup [.int (k : Nat), rowD x] :: enumD (k + 1) (xs.map rowD)).filterMap p = _
    rw [List.filterMap_cons, h, ih, List.length_cons, List.range_succ_eq_map, List.filter_cons, List.filter_map]
    have e1 : ((x :: xs).getD 0 []) = x := rfl
    have e2 : ∀ l : List Nat, ((l.filter ((fun j => q ((x :: xs).getD j [])) ∘ Nat.succ)).map Nat.succ).map (fun (j : Nat) => D.int ((k + j : Nat) : Int)) = (l.filter fun j => q (xs.getD j [])).map fun (j : Nat) => D.int ((k + 1 + j : Nat) : Int) := fun l => by
      rw [List.map_map]
      have e3 : ((fun j => q ((x :: xs).getD j [])) ∘ Nat.succ) = fun j => q (xs.getD j []) := by
        funext j
        rfl
      rw [e3]
      refine List.map_congr_left fun j _ => ?_
      show D.int ((k + (j + 1) : Nat) : Int) = _
      congr 2
      omega
    rw [e1]
    cases hq : q x with
    | true =>
      rw [if_pos rfl, if_pos rfl, List.map_cons, e2]
      rfl
    | false => rw [if_neg (by decide), if_neg (by decide), e2]
theorem eqF_map {rss : Rows} {i : Nat} : (enumD 0 (rss.map rowD)).filterMap (eqF (rss.getD i [])) = (eqsN rss rss.length i).map D.int := by
  rw [enum_filter (eqF (rss.getD i [])) (fun r => decide (r = rss.getD i [])) (fun a r => by
    rw [eqF_at]
    by_cases e : r = rss.getD i []
    · rw [if_pos e, if_pos (decide_eq_true e)]
    · rw [if_neg e, if_neg (by simpa using e)])]
  unfold eqsN
  rw [List.map_map]
  refine List.map_congr_left fun j _ => ?_
  show D.int ((0 + j : Nat) : Int) = D.int (j : Int)
  rw [Nat.zero_add]
theorem ok_intsN {xs : List Int} (hl : xs.length ≤ 100) (h : ∀ x ∈ xs, 0 ≤ x ∧ x ≤ 100) : ∃ p, toP (.tup (xs.map D.int)) = some p ∧ okR p := by
  have hs : smA (xs.map D.int) = true := smA_of fun d hd => by
    obtain ⟨v, hv, rfl⟩ := List.mem_map.mp hd
    have := h v hv
    show decide (v.natAbs < 1000) = true
    exact decide_eq_true (by omega)
  have h2 := lnA_le (M := 102) (ds := xs.map D.int) fun d hd => by
    obtain ⟨v, hv, rfl⟩ := List.mem_map.mp hd
    have := h v hv
    simp only [lnB]
    omega
  have h3 := dpA_le (M := 0) (ds := xs.map D.int) fun d hd => by
    obtain ⟨v, hv, rfl⟩ := List.mem_map.mp hd
    exact Nat.le_refl _
  rw [List.length_map] at h2
  obtain ⟨p, e, g1, g2, g3, g4⟩ := sm_toP (.tup (xs.map D.int)) hs
  refine ⟨p, e, g1, g2, ?_, ?_⟩
  · have : dpB (.tup (xs.map D.int)) = dpA (xs.map D.int) + 1 := rfl
    omega
  · have : lnB (.tup (xs.map D.int)) = lnA (xs.map D.int) + 4 := rfl
    have : xs.length * (102 + 2) ≤ 100 * (102 + 2) := Nat.mul_le_mul_right _ hl
    omega
theorem sm_ints {xs : List Int} (hl : xs.length ≤ 12) (h : ∀ x ∈ xs, 0 ≤ x ∧ x ≤ 100) : smB (tupI xs) = true ∧ lnB (tupI xs) ≤ 1252 ∧ dpB (tupI xs) ≤ 1 := by
  have hs : smA (xs.map D.int) = true := smA_of fun d hd => by
    obtain ⟨v, hv, rfl⟩ := List.mem_map.mp hd
    have := h v hv
    show decide (v.natAbs < 1000) = true
    exact decide_eq_true (by omega)
  have h2 := lnA_le (M := 102) (ds := xs.map D.int) fun d hd => by
    obtain ⟨v, hv, rfl⟩ := List.mem_map.mp hd
    have := h v hv
    simp only [lnB]
    omega
  have h3 := dpA_le (M := 0) (ds := xs.map D.int) fun d hd => by
    obtain ⟨v, hv, rfl⟩ := List.mem_map.mp hd
    exact Nat.le_refl _
  rw [List.length_map] at h2
  have e1 : lnB (tupI xs) = lnA (xs.map D.int) + 4 := rfl
  have e2 : dpB (tupI xs) = dpA (xs.map D.int) + 1 := rfl
  have : xs.length * (102 + 2) ≤ 12 * (102 + 2) := Nat.mul_le_mul_right _ hl
  exact ⟨hs, by omega, by omega⟩
theorem ok_ttN {nss : List (List Int)} (hl : nss.length ≤ 12) (h : ∀ ns ∈ nss, ns.length ≤ 12 ∧ ∀ x ∈ ns, 0 ≤ x ∧ x ≤ 100) : ∃ p, toP (.tup (nss.map tupI)) = some p ∧ okR p := by
  have hs : smA (nss.map tupI) = true := smA_of fun d hd => by
    obtain ⟨v, hv, rfl⟩ := List.mem_map.mp hd
    exact (sm_ints (h v hv).1 (h v hv).2).1
  have h2 := lnA_le (M := 1252) (ds := nss.map tupI) fun d hd => by
    obtain ⟨v, hv, rfl⟩ := List.mem_map.mp hd
    exact (sm_ints (h v hv).1 (h v hv).2).2.1
  have h3 := dpA_le (M := 1) (ds := nss.map tupI) fun d hd => by
    obtain ⟨v, hv, rfl⟩ := List.mem_map.mp hd
    exact (sm_ints (h v hv).1 (h v hv).2).2.2
  rw [List.length_map] at h2
  obtain ⟨p, e, g1, g2, g3, g4⟩ := sm_toP (.tup (nss.map tupI)) hs
  refine ⟨p, e, g1, g2, ?_, ?_⟩
  · have : dpB (.tup (nss.map tupI)) = dpA (nss.map tupI) + 1 := rfl
    omega
  · have : lnB (.tup (nss.map tupI)) = lnA (nss.map tupI) + 4 := rfl
    have : nss.length * (1252 + 2) ≤ 12 * (1252 + 2) := Nat.mul_le_mul_right _ hl
    omega
theorem eqP_kn {g : Bool → Bool} {a b : List Int} {k : D → Prop} (h : k (.bl (g (decide (a = b))))) : eqP g (.tup (a.map D.int)) (.tup (b.map D.int)) k := by
  refine ⟨_, _, toP_tup a, toP_tup b, shaped_tup a, shaped_tup b, ?_⟩
  rw [eqv_dT]
  exact h
theorem used_range {kn : List Int} {rss : Rows} (t : TabN kn rss) {m : Nat} (hm : m < kn.length) {us : List Int} (h : UsedO rss m us) : us.length ≤ 6 ∧ 1 ≤ us.length ∧ ∀ x ∈ us, 0 ≤ x ∧ x < 6 := by
  have hr : ∀ x ∈ us, 0 ≤ x ∧ x < 6 := fun x hx => by
    have hc := (h.mem x).mp hx
    unfold colO at hc
    obtain ⟨r, hr, e⟩ := List.mem_map.mp hc
    have hl := t.rw r hr
    have hk := t.kb _ (List.getElem_mem hm)
    have := t.cb r hr m kn[m] x (List.getElem?_eq_getElem hm) (by rw [List.getD_eq_getElem?_getD, List.getElem?_eq_getElem (by omega)] at e; rw [List.getElem?_eq_getElem (by omega)]; exact congrArg some e)
    omega
  refine ⟨?_, ?_, hr⟩
  · have hn : us.Nodup := h.asc.imp fun h => by omega
    have hs : ∀ x ∈ us, x ∈ ([0, 1, 2, 3, 4, 5] : List Int) := fun x hx => by
      have := hr x hx
      simp only [List.mem_cons, List.not_mem_nil, or_false]
      omega
    have gen : ∀ (l m : List Int), l.Nodup → (∀ x ∈ l, x ∈ m) → l.length ≤ m.length := by
      intro l
      induction l with
      | nil => exact fun _ _ _ => Nat.zero_le _
      | cons a l ih =>
        intro m h g
        obtain ⟨h1, h2⟩ := List.nodup_cons.mp h
        have z := ih (m.erase a) h2 fun x hx => (List.mem_erase_of_ne (fun e => h1 (by rw [← e]; exact hx))).mpr (g x (List.mem_cons_of_mem _ hx))
        rw [List.length_erase_of_mem (g a List.mem_cons_self)] at z
        have := List.length_pos_of_mem (g a List.mem_cons_self)
        simp only [List.length_cons]
        omega
    exact gen us _ hn hs
  · obtain ⟨r, hr, c, hc⟩ := t.un m hm
    have hm2 : c ∈ us := (h.mem c).mpr (by
      unfold colO
      refine List.mem_map.mpr ⟨r, hr, ?_⟩
      rw [List.getD_eq_getElem?_getD, hc]
      rfl)
    exact List.length_pos_of_mem hm2
theorem havL_ok {rss : Rows} (hl : rss.length ≤ 12) {m : Nat} {x : Int} : (havL rss m x).length ≤ 12 ∧ ∀ v ∈ havL rss m x, 0 ≤ v ∧ v ≤ 100 := by
  unfold havL
  refine ⟨?_, fun v hv => ?_⟩
  · rw [List.length_map]
    have := List.length_filter_le (fun j => decide ((colO rss m)[j]? = some (some x))) (List.range rss.length)
    rw [List.length_range] at this
    omega
  · obtain ⟨j, hj, rfl⟩ := List.mem_map.mp hv
    have := List.mem_range.mp (List.mem_filter.mp hj).1
    omega
theorem sortsL_ok {rss : Rows} (hl : rss.length ≤ 12) : (sortsL rss).length ≤ 12 ∧ ∀ ns ∈ sortsL rss, ns.length ≤ 12 ∧ ∀ x ∈ ns, 0 ≤ x ∧ x ≤ 100 := by
  rw [sorts_eq]
  refine ⟨?_, fun ns hn => ?_⟩
  · rw [List.length_map]
    have := List.length_filter_le (freshB rss) (List.range rss.length)
    rw [List.length_range] at this
    unfold lawS
    omega
  · obtain ⟨a, _, rfl⟩ := List.mem_map.mp hn
    unfold eqsN
    refine ⟨?_, fun v hv => ?_⟩
    · rw [List.length_map]
      have := List.length_filter_le (fun j => decide (rss.getD j [] = rss.getD a [])) (List.range rss.length)
      rw [List.length_range] at this
      omega
    · obtain ⟨j, hj, rfl⟩ := List.mem_map.mp hv
      have := List.mem_range.mp (List.mem_filter.mp hj).1
      omega

def notF (us : List Int) (x : D) : Option D := if inU us x = true then none else some x
theorem notF_len (us : List Int) : ((rangeD 0 (Int.toNat 6)).filterMap (notF us)).length ≤ 6 := List.length_filterMap_le ..
theorem notF_mem {us : List Int} {d : D} (h : d ∈ (rangeD 0 (Int.toNat 6)).filterMap (notF us)) : nx d = true ∧ inU us d = false := by
  obtain ⟨x, hx, e⟩ := List.mem_filterMap.mp h
  obtain ⟨v, _, rfl⟩ := range_mem (m := 6) hx
  unfold notF at e
  cases hi : inU us (.int (v : Int)) with
  | true => rw [hi, if_pos rfl] at e; cases e
  | false =>
    rw [hi, if_neg (by decide)] at e
    obtain rfl := Option.some.inj e
    exact ⟨rfl, hi⟩
theorem tab_kinds {kn : List Int} {rss : Rows} (t : TabN kn rss) : kindsB (.tup (kn.map D.int)) = true := by
  have kl := t.kl
  simp only [kindsB, Bool.and_eq_true, decide_eq_true_eq, List.all_eq_true, List.length_map]
  refine ⟨kl, fun d hd => ?_⟩
  obtain ⟨k, hk, rfl⟩ := List.mem_map.mp hd
  have := t.kb k hk
  simp only [betw, Bool.and_eq_true, decide_eq_true_eq]
  exact this
theorem tab_rows {kn : List Int} {rss : Rows} (t : TabN kn rss) : rowsB (kn.map D.int) (.tup (rss.map rowD)) = true := by
  have rl := t.rl
  simp only [rowsB, Bool.and_eq_true, decide_eq_true_eq, List.all_eq_true, List.length_map]
  refine ⟨⟨rl, fun d hd => ?_⟩, ?_⟩
  · obtain ⟨r, hr, rfl⟩ := List.mem_map.mp hd
    have hl := t.rw r hr
    show (decide ((r.map oD).length = (kn.map D.int).length) && ((kn.map D.int).zip (r.map oD)).all fun p => cellB p.1 p.2) = true
    rw [List.length_map, List.length_map, decide_eq_true hl, Bool.true_and, List.all_eq_true]
    intro p hp
    obtain ⟨j, hj⟩ := List.mem_iff_getElem?.mp hp
    rw [List.getElem?_zip_eq_some, List.getElem?_map, List.getElem?_map] at hj
    obtain ⟨h1, h2⟩ := hj
    obtain ⟨k, hk, e1⟩ := Option.map_eq_some_iff.mp h1
    obtain ⟨o, ho, e2⟩ := Option.map_eq_some_iff.mp h2
    rw [← e1, ← e2]
    cases o with
    | none => rfl
    | some c =>
      have := t.cb r hr j k c hk ho
      show (decide (0 ≤ c) && decide (c ≤ k - 1)) = true
      rw [decide_eq_true this.1, decide_eq_true this.2]
      rfl
  · rw [firstU_none fun j hj => ?_]
    · rfl
    · obtain ⟨r, hr, c, hc⟩ := t.un j hj
      unfold colU
      rw [List.all_eq_false]
      refine ⟨rowD r, List.mem_map_of_mem hr, ?_⟩
      have hlt : j < r.length := (List.getElem?_eq_some_iff.mp hc).1
      rw [atN_row hlt, List.getD_eq_getElem?_getD, hc]
      exact fun z => nomatch z
theorem TabN.kind {kn : List Int} {rss : Rows} (t : TabN kn rss) {a : Nat} {k : Int} (hk : kn[a]? = some k) (h6 : k < 6) : TabN (kn.set a (k + 1)) rss := by
  have hl : (kn.set a (k + 1)).length = kn.length := List.length_set
  have hk0 := t.kb k (List.mem_of_getElem? hk)
  refine ⟨by rw [hl]; exact t.kl, fun x hx => ?_, t.rl, fun r hr => by rw [hl]; exact t.rw r hr, fun r hr m q c hq hc => ?_, fun m hm => t.un m (by rw [hl] at hm; exact hm)⟩
  · rcases List.mem_or_eq_of_mem_set hx with hx | rfl
    · exact t.kb x hx
    · omega
  · by_cases e : a = m
    · subst e
      rw [List.getElem?_set_self (List.getElem?_eq_some_iff.mp hk).1] at hq
      obtain rfl := Option.some.inj hq
      have := t.cb r hr a k c hk hc
      omega
    · rw [List.getElem?_set_ne e] at hq
      exact t.cb r hr m q c hq hc
theorem TabN.cell {kn : List Int} {rss : Rows} (t : TabN kn rss) {a b : Nat} {k c : Int} {r : List (Option Int)} (hk : kn[a]? = some k) (hr : rss[b]? = some r) (c0 : 0 ≤ c) (c1 : c < k) : TabN kn (rss.set b (r.set a (some c))) := by
  have ha : a < kn.length := (List.getElem?_eq_some_iff.mp hk).1
  have hb : b < rss.length := (List.getElem?_eq_some_iff.mp hr).1
  have hrm := List.mem_of_getElem? hr
  have hrl := t.rw r hrm
  refine ⟨t.kl, t.kb, by rw [List.length_set]; exact t.rl, fun x hx => ?_, fun x hx m q y hq hy => ?_, fun m hm => ?_⟩
  · rcases List.mem_or_eq_of_mem_set hx with hx | rfl
    · exact t.rw x hx
    · rw [List.length_set]; exact hrl
  · rcases List.mem_or_eq_of_mem_set hx with hx | rfl
    · exact t.cb x hx m q y hq hy
    · by_cases e : a = m
      · subst e
        rw [List.getElem?_set_self (by omega)] at hy
        obtain rfl := Option.some.inj (Option.some.inj hy)
        rw [hk] at hq
        obtain rfl := Option.some.inj hq
        omega
      · rw [List.getElem?_set_ne e] at hy
        exact t.cb r hrm m q y hq hy
  · have hnew : r.set a (some c) ∈ rss.set b (r.set a (some c)) := List.mem_set hb _
    by_cases e : a = m
    · subst e
      exact ⟨_, hnew, c, List.getElem?_set_self (by omega)⟩
    · obtain ⟨x, hx, y, hy⟩ := t.un m hm
      obtain ⟨j, hj⟩ := List.mem_iff_getElem?.mp hx
      by_cases e2 : b = j
      · subst e2
        rw [hr] at hj
        obtain rfl := Option.some.inj hj
        exact ⟨_, hnew, y, by rw [List.getElem?_set_ne e]; exact hy⟩
      · exact ⟨x, List.mem_of_getElem? (i := j) (by rw [List.getElem?_set_ne e2]; exact hj), y, hy⟩
theorem set_ne {α : Type} {l : List α} {i : Nat} {d x : α} (h : l[i]? = some x) (hn : x ≠ d) : l ≠ l.set i d := fun z => by
  have e : (l.set i d)[i]? = some d := List.getElem?_set_self (List.getElem?_eq_some_iff.mp h).1
  rw [← z, h] at e
  exact hn (Option.some.inj e)

theorem nil_nil {k : D → Prop} (h : k (.bl true)) : eqP id (.lst []) (.lst []) k := by
  refine ⟨.list [], .list [], rfl, rfl, by decide, by decide, ?_⟩
  simpa [PySem.PyData.eqv, PySem.PyData.eqvAll] using h

theorem eqP_intsLN {g : Bool → Bool} {a b : List Int} {k : D → Prop} (h : k (.bl (g (decide (a = b))))) : eqP g (.lst (a.map D.int)) (.lst (b.map D.int)) k := by
  have one : ∀ a : List Int, toP (.lst (a.map D.int)) = some (.list (a.map .int)) := fun a => by
    show (toPs (a.map D.int)).map PySem.PyData.list = _
    rw [toPs_ints]
    rfl
  refine ⟨_, _, one a, one b, shaped_ints a, shaped_ints b, ?_⟩
  simp only [PySem.PyData.eqv, eqv_ints]
  exact h
def nilF (x : D) : Option D := if fullD x = true then none else some (.int 1)
def nilL (rss : Rows) : List Int := (rss.filter fun r => !(r.all Option.isSome)).map fun _ => 1
theorem nilF_map : ∀ rss : Rows, (rss.map rowD).filterMap nilF = (nilL rss).map D.int
  | [] => rfl
  | r :: rss => by
    have ih := nilF_map rss
    unfold nilL at ih ⊢
    rw [List.map_cons, List.filterMap_cons, List.filter_cons]
    unfold nilF at ih ⊢
    rw [fullD_row]
    cases h : r.all Option.isSome with
    | true => rw [if_pos rfl, if_neg (by decide), ih]
    | false => rw [if_neg (by decide), if_pos (by decide), List.map_cons, List.map_cons, ← ih]
theorem nilL_full : ∀ rss : Rows, decide (nilL rss = []) = fullB rss
  | [] => rfl
  | r :: rss => by
    have ih := nilL_full rss
    unfold nilL fullB at ih ⊢
    rw [List.filter_cons, List.all_cons]
    cases h : r.all Option.isSome with
    | true => rw [if_neg (by decide), ih, Bool.true_and]
    | false => rw [if_pos (by decide)]; rfl
def zeroC : Option Int → Option Int
  | none => some 0
  | some c => some c
def zeroR (x : D) : D := rowD ((rowO x).map zeroC)

def zeroD : D → D
  | .non => .int 0
  | d => d
theorem zeroD_map (r : List (Option Int)) : (r.map oD).map zeroD = (r.map zeroC).map oD := by
  rw [List.map_map, List.map_map]
  exact List.map_congr_left fun o _ => by cases o <;> rfl
def zeroT (rss : Rows) : Rows := rss.map fun r => r.map zeroC
theorem zeroR_map (rss : Rows) : (rss.map rowD).map zeroR = (zeroT rss).map rowD := by
  unfold zeroT
  rw [List.map_map, List.map_map]
  refine List.map_congr_left fun r _ => ?_
  show rowD ((rowO (rowD r)).map zeroC) = rowD (r.map zeroC)
  rw [rowO_row]
theorem TabN.zero {kn : List Int} {rss : Rows} (t : TabN kn rss) : TabN kn (zeroT rss) := by
  have hm : ∀ {x : List (Option Int)}, x ∈ zeroT rss → ∃ r ∈ rss, x = r.map zeroC := fun {x} hx => by
    obtain ⟨r, hr, e⟩ := List.mem_map.mp hx
    exact ⟨r, hr, e.symm⟩
  refine ⟨t.kl, t.kb, by unfold zeroT; rw [List.length_map]; exact t.rl, fun x hx => ?_, fun x hx m k c hk hc => ?_, fun m hm' => ?_⟩
  · obtain ⟨r, hr, rfl⟩ := hm hx
    rw [List.length_map]
    exact t.rw r hr
  · obtain ⟨r, hr, rfl⟩ := hm hx
    rw [List.getElem?_map] at hc
    obtain ⟨o, ho, e⟩ := Option.map_eq_some_iff.mp hc
    cases o with
    | none =>
      obtain rfl := Option.some.inj e
      have := t.kb k (List.mem_of_getElem? hk)
      omega
    | some d =>
      obtain rfl := Option.some.inj e
      exact t.cb r hr m k d hk ho
  · obtain ⟨r, hr, c, hc⟩ := t.un m hm'
    exact ⟨_, List.mem_map_of_mem hr, c, by rw [List.getElem?_map, hc]; rfl⟩
theorem zero_full (rss : Rows) : fullB (zeroT rss) = true := by
  unfold fullB zeroT
  rw [List.all_map, List.all_eq_true]
  intro r _
  show (r.map zeroC).all Option.isSome = true
  rw [List.all_map, List.all_eq_true]
  intro o _
  cases o <;> rfl

theorem sc_law_caught : FnScope ["work", "caught", "error"] ["work"] (defScope s_law_caught) := ⟨rfl, rfl, rfl, by decide +kernel, rfl, by decide +kernel, by decide +kernel⟩
def ds_is_number : DSp0 := fun ss n P => ∃ d, ss = [.d d] ∧ bareD d ∧ P (.bl (isInt d)) n
theorem len_is_number : ∀ ss n P, ds_is_number ss n P → ss.length = 1 := by rintro ss n P ⟨d, rfl, _⟩; rfl

def ds_is_between : DSp0 := fun ss n P => ∃ d lo hi, ss = [.d d, .d (.int lo), .d (.int hi)] ∧ bareD d ∧ P (.bl (betw lo hi d)) n
theorem len_is_between : ∀ ss n P, ds_is_between ss n P → ss.length = 3 := by rintro ss n P ⟨d, lo, hi, rfl, _⟩; rfl

def ds_is_kind : DSp0 := fun ss n P => ∃ d, ss = [.d d] ∧ bareD d ∧ P (.bl (betw 1 6 d)) n
theorem len_is_kind : ∀ ss n P, ds_is_kind ss n P → ss.length = 1 := by rintro ss n P ⟨d, rfl, _⟩; rfl

def ds_are_kinds : DSp0 := fun ss n P => ∃ d, ss = [.d d] ∧ nx d = true ∧ P (.bl (kindsB d)) n
theorem len_are_kinds : ∀ ss n P, ds_are_kinds ss n P → ss.length = 1 := by rintro ss n P ⟨d, rfl, _⟩; rfl

def ds_is_cell : DSp0 := fun ss n P => ∃ k d, ss = [.d (.int k), .d d] ∧ bareD d ∧ P (.bl (cellB (.int k) d)) n
theorem len_is_cell : ∀ ss n P, ds_is_cell ss n P → ss.length = 2 := by rintro ss n P ⟨k, d, rfl, _⟩; rfl

def ds_is_row_for : DSp0 := fun ss n P => ∃ ks d, ss = [.d (.tup ks), .d d] ∧ nx d = true ∧ ks.length ≤ 100 ∧ ks.all (betw 1 6) = true ∧ P (.bl (rowB ks d)) n
theorem len_is_row_for : ∀ ss n P, ds_is_row_for ss n P → ss.length = 2 := by rintro ss n P ⟨k, d, rfl, _⟩; rfl

def ds_first_unread : DSp0 := fun ss n P => ∃ m rs, ss = [.d (.tup rs)] ∧ 1 ≤ rs.length ∧ rs.length ≤ 100 ∧ m ≤ 100 ∧ (∀ r ∈ rs, ∃ cs, r = .tup cs ∧ cs.length = m) ∧ P (match firstU m rs with | some j => .int j | none => .non) n
theorem len_first_unread : ∀ ss n P, ds_first_unread ss n P → ss.length = 1 := by rintro ss n P ⟨m, k, rfl, _⟩; rfl

def ds_are_rows : DSp0 := fun ss n P => ∃ ks d, ss = [.d (.tup ks), .d d] ∧ nx d = true ∧ kindsB (.tup ks) = true ∧ P (.bl (rowsB ks d)) n
theorem len_are_rows : ∀ ss n P, ds_are_rows ss n P → ss.length = 2 := by rintro ss n P ⟨k, d, rfl, _⟩; rfl

def ds_law_put : DSp0 := fun ss n P => ∃ xs i d, ss = [.d (.tup xs), .d (.int (i : Nat)), .d d] ∧ i < xs.length ∧ xs.length ≤ 100 ∧ P (.tup (xs.take i ++ [d] ++ xs.drop (i + 1))) n
theorem len_law_put : ∀ ss n P, ds_law_put ss n P → ss.length = 3 := by rintro ss n P ⟨xs, hi, d, rfl, _⟩; rfl

def ds_law_draw : DSp0 := fun ss n P => ∃ z, ss = [.st, .d (.int z)] ∧ 0 < z ∧ z < 1073741824 ∧ n < LIM ∧ ∀ r n', 0 ≤ r → r < z → n' ≤ n + 1 → P (.int r) n'
theorem len_law_draw : ∀ ss n P, ds_law_draw ss n P → ss.length = 2 := by rintro ss n P ⟨z, rfl, _⟩; rfl

def ds_law_pick : DSp0 := fun ss n P => ∃ xs, (ss = [.st, .d (.tup xs)] ∨ ss = [.st, .d (.lst xs)]) ∧ 0 < xs.length ∧ xs.length ≤ 1000 ∧ n < LIM ∧ ∀ x ∈ xs, ∀ n', n' ≤ n + 1 → P x n'
theorem len_law_pick : ∀ ss n P, ds_law_pick ss n P → ss.length = 2 := by rintro ss n P ⟨xs, rfl | rfl, _⟩ <;> rfl

def ds_law_bad_table : DSp0 := fun ss n P => ss = [.st] ∧ n < LIM ∧ ∀ d n', n' ≤ n + 1 → nx d = true → (∀ C ns ds, d ≠ .ins C ns ds) → P d n'
theorem len_law_bad_table : ∀ ss n P, ds_law_bad_table ss n P → ss.length = 1 := by rintro ss n P ⟨rfl, _⟩; rfl

def ds_law_cell : DSp0 := fun ss n P => ∃ k, ss = [.st, .d (.int k)] ∧ 1 ≤ k ∧ k ≤ 6 ∧ n + 2 < LIM ∧ ∀ d n', n' ≤ n + 2 → cellB (.int k) d = true → P d n'
theorem len_law_cell : ∀ ss n P, ds_law_cell ss n P → ss.length = 2 := by rintro ss n P ⟨z, rfl, _⟩; rfl

def ds_Table_init (cs : Cs) : DSI := fun ss n P XP => ∃ k r, ss = [.d k, .d r] ∧ nx k = true ∧ nx r = true ∧
  (kindsB k = false → XP cs.BadKinds [] [] n) ∧ (kindsB k = true → rowsB (match k with | .tup ks => ks | _ => []) r = false → XP cs.BadRows [] [] n) ∧ (kindsB k = true → rowsB (match k with | .tup ks => ks | _ => []) r = true → P kR [k, r] n)
theorem len_Table_init (cs : Cs) : ∀ ss n P XP, ds_Table_init cs ss n P XP → ss.length + 1 = 3 := by rintro ss n P XP ⟨k, r, rfl, _⟩; rfl

def ds_check_table (cs : Cs) : DSp := fun ss n P XP => ∃ d, ss = [.d d] ∧ ((∃ ks rs, d = tabD cs.Table ks rs ∧ P .non n) ∨ (nx d = true ∧ (∀ C ns ds, d ≠ .ins C ns ds) ∧ XP cs.BadTable [] [] n))
theorem len_check_table (cs : Cs) : ∀ ss n P XP, ds_check_table cs ss n P XP → ss.length = 1 := by rintro ss n P XP ⟨d, rfl, _⟩; rfl

def ds_law_made (cs : Cs) : DSp0 := fun ss n P => ∃ ks rs, ss = [.d (.dic [.inr "kinds", .inr "rows"] [.tup ks, .tup rs])] ∧ nxs ks = true ∧ nxs rs = true ∧ kindsB (.tup ks) = true ∧ rowsB ks (.tup rs) = true ∧ P (tabD cs.Table ks rs) n
theorem len_law_made (cs : Cs) : ∀ ss n P, ds_law_made cs ss n P → ss.length = 1 := by rintro ss n P ⟨ks, rs, rfl, _⟩; rfl

def ds_law_no_table (cs : Cs) : DSp0 := fun ss n P => ss = [.d (.exc cs.BadTable [] [])] ∧ P (.bl true) n
theorem len_law_no_table (cs : Cs) : ∀ ss n P, ds_law_no_table cs ss n P → ss.length = 1 := by rintro ss n P ⟨rfl, _⟩; rfl

def ds_law_wide : DSp0 := fun ss n P => ss = [.st] ∧ n + 1000 < LIM ∧ ∀ ks rs n', n' ≤ n + 1000 → nxs ks = true → nxs rs = true → kindsB (.tup ks) = true → rowsB ks (.tup rs) = true → P (.dic [.inr "kinds", .inr "rows"] [.tup ks, .tup rs]) n'
theorem len_law_wide : ∀ ss n P, ds_law_wide ss n P → ss.length = 1 := by rintro ss n P ⟨rfl, _⟩; rfl



def ds_law_refused (K : PySem.W.Frag) (cs : Cs) (LD : LamP) (HD : HldP) : DSp0 := fun ss n P => ∃ F G args bads, ss = [.st, .fv F, .d (.lst args), .d (.lst bads)] ∧ LD F G ∧ 1 ≤ bads.length ∧ bads.length ≤ 100 ∧ args.length ≤ 100 ∧ n + 200 < LIM ∧
  (∀ b ∈ bads, ∃ (i : Nat) (d : D) (f : Addr), b = .tup [.int (i : Int), d, .fnv f] ∧ i < args.length) ∧
  ∀ (wrong : List D) (m i : Nat) (d : D) (f : Addr), wrong.Sublist bads → wrong.head? = some (.tup [.int (i : Int), d, .fnv f]) → m ≤ n + 200 →
    ∀ (P' : DQ) (XP' : DX), (∀ C ns ds n1, (ErrC K cs.FoundError C ∧ ∃ DS : DSp0, HD f DS ∧ DS [.d (.exc C ns ds)] n1 P) → XP' C ns ds n1) → G (.lst (putsD args wrong)) m P' XP'
theorem len_law_refused (K : PySem.W.Frag) (cs : Cs) (LD : LamP) (HD : HldP) : ∀ ss n P, ds_law_refused K cs LD HD ss n P → ss.length = 4 := by rintro ss n P ⟨F, G, a, b, rfl, _⟩; rfl

def ds_law_no_matter (cs : Cs) : DSp0 := fun ss n P => ss = [.d (.exc cs.BadMatter [] [])] ∧ P (.bl true) n
theorem len_law_no_matter (cs : Cs) : ∀ ss n P, ds_law_no_matter cs ss n P → ss.length = 1 := by rintro ss n P ⟨rfl, _⟩; rfl

def ds_law_no_custom (cs : Cs) : DSp0 := fun ss n P => ss = [.d (.exc cs.BadCustom [] [])] ∧ P (.bl true) n
theorem len_law_no_custom (cs : Cs) : ∀ ss n P, ds_law_no_custom cs ss n P → ss.length = 1 := by rintro ss n P ⟨rfl, _⟩; rfl

def ds_law_bad_number : DSp0 := fun ss n P => ∃ k : Int, ss = [.st, .d (.int k)] ∧ n < LIM ∧ ∀ d n', n' ≤ n + 1 → nx d = true → betw 0 (k - 1) d = false → P d n'
theorem len_law_bad_number : ∀ ss n P, ds_law_bad_number ss n P → ss.length = 2 := by rintro ss n P ⟨k, rfl, _⟩; rfl

def ds_check_matter (cs : Cs) : DSp := fun ss n P XP => ∃ ks rs v, ss = [.d (tabD cs.Table ks rs), .d v] ∧ nx v = true ∧ (betw 0 ((ks.length : Int) - 1) v = true → P .non n) ∧ (betw 0 ((ks.length : Int) - 1) v = false → XP cs.BadMatter [] [] n)
theorem len_check_matter (cs : Cs) : ∀ ss n P XP, ds_check_matter cs ss n P XP → ss.length = 2 := by rintro ss n P XP ⟨ks, rs, v, rfl, _⟩; rfl

def ds_is_full (cs : Cs) : DSp := fun ss n P XP => ∃ d, ss = [.d d] ∧ ((∃ kn rss, d = tabD cs.Table (kn.map D.int) (rss.map rowD) ∧ TabN kn rss ∧ P (.bl (fullB rss)) n) ∨ (nx d = true ∧ (∀ C ns ds, d ≠ .ins C ns ds) ∧ XP cs.BadTable [] [] n))
theorem len_is_full (cs : Cs) : ∀ ss n P XP, ds_is_full cs ss n P XP → ss.length = 1 := by rintro ss n P XP ⟨d, rfl, _⟩; rfl

def ds_sorts (cs : Cs) : DSp := fun ss n P XP => ∃ d, ss = [.d d] ∧ ((∃ kn rss, d = tabD cs.Table (kn.map D.int) (rss.map rowD) ∧ TabN kn rss ∧ P (.tup ((sortsL rss).map tupI)) n) ∨ (nx d = true ∧ (∀ C ns ds, d ≠ .ins C ns ds) ∧ XP cs.BadTable [] [] n))
theorem len_sorts (cs : Cs) : ∀ ss n P XP, ds_sorts cs ss n P XP → ss.length = 1 := by rintro ss n P XP ⟨d, rfl, _⟩; rfl

def ds_law_sorts : DSp0 := fun ss n P => ∃ kn rss, ss = [.d (.tup (rss.map rowD))] ∧ TabN kn rss ∧ P (.tup ((sortsL rss).map tupI)) n
theorem len_law_sorts : ∀ ss n P, ds_law_sorts ss n P → ss.length = 1 := by rintro ss n P ⟨kn, rss, rfl, _⟩; rfl

def ds_law_column : DSp0 := fun ss n P => ∃ (kn : List Int) (rss : List (List (Option Int))) (m : Nat), ss = [.d (.dic [.inr "kinds", .inr "rows"] [.tup (kn.map D.int), .tup (rss.map rowD)]), .d (.int (m : Int))] ∧ TabN kn rss ∧ m < kn.length ∧ P (.tup ((colO rss m).map oD)) n
theorem len_law_column : ∀ ss n P, ds_law_column ss n P → ss.length = 2 := by rintro ss n P ⟨kn, rss, m, rfl, _⟩; rfl

def ds_law_used : DSp0 := fun ss n P => ∃ (kn : List Int) (rss : List (List (Option Int))) (m : Nat), ss = [.d (.dic [.inr "kinds", .inr "rows"] [.tup (kn.map D.int), .tup (rss.map rowD)]), .d (.int (m : Int))] ∧ TabN kn rss ∧ m < kn.length ∧ ∀ us, UsedO rss m us → P (.lst (us.map D.int)) n
theorem len_law_used : ∀ ss n P, ds_law_used ss n P → ss.length = 2 := by rintro ss n P ⟨kn, rss, m, rfl, _⟩; rfl

def ds_used (cs : Cs) : DSp := fun ss n P XP => ∃ d v, ss = [.d d, .d v] ∧ nx v = true ∧ ((nx d = true ∧ (∀ C ns ds, d ≠ .ins C ns ds) ∧ XP cs.BadTable [] [] n) ∨ ∃ kn rss, d = tabD cs.Table (kn.map D.int) (rss.map rowD) ∧ TabN kn rss ∧
  (betw 0 ((kn.length : Int) - 1) v = false → XP cs.BadMatter [] [] n) ∧ ∀ m : Nat, v = .int (m : Int) → m < kn.length → ∀ us, UsedO rss m us → P (.tup (us.map D.int)) n)
theorem len_used (cs : Cs) : ∀ ss n P XP, ds_used cs ss n P XP → ss.length = 2 := by rintro ss n P XP ⟨d, v, rfl, _⟩; rfl

def ds_is_used (cs : Cs) : DSp := fun ss n P XP => ∃ (kn : List Int) (rss : List (List (Option Int))) (m : Nat) (v : D), ss = [.d (tabD cs.Table (kn.map D.int) (rss.map rowD)), .d (.int (m : Int)), .d v] ∧ nx v = true ∧ TabN kn rss ∧ m < kn.length ∧ ∀ us, UsedO rss m us → P (.bl (inU us v)) n
theorem len_is_used (cs : Cs) : ∀ ss n P XP, ds_is_used cs ss n P XP → ss.length = 3 := by rintro ss n P XP ⟨kn, rss, m, v, rfl, _⟩; rfl

def ds_having (cs : Cs) : DSp := fun ss n P XP => ∃ d v c, ss = [.d d, .d v, .d c] ∧ nx v = true ∧ nx c = true ∧ ((nx d = true ∧ (∀ C ns ds, d ≠ .ins C ns ds) ∧ XP cs.BadTable [] [] n) ∨ ∃ kn rss, d = tabD cs.Table (kn.map D.int) (rss.map rowD) ∧ TabN kn rss ∧
  (betw 0 ((kn.length : Int) - 1) v = false → XP cs.BadMatter [] [] n) ∧ ∀ m : Nat, v = .int (m : Int) → m < kn.length → ∀ us, UsedO rss m us → (inU us c = false → XP cs.BadCustom [] [] n) ∧ ∀ x ∈ us, c = .int x → P (.tup ((havL rss m x).map D.int)) n)
theorem len_having (cs : Cs) : ∀ ss n P XP, ds_having cs ss n P XP → ss.length = 3 := by rintro ss n P XP ⟨d, v, c, rfl, _⟩; rfl

def ds_law_having : DSp0 := fun ss n P => ∃ (kn : List Int) (rss : List (List (Option Int))) (m : Nat) (x : Int), ss = [.d (.dic [.inr "kinds", .inr "rows"] [.tup (kn.map D.int), .tup (rss.map rowD)]), .d (.int (m : Int)), .d (.int x)] ∧ TabN kn rss ∧ m < kn.length ∧ P (.lst ((havL rss m x).map D.int)) n
theorem len_law_having : ∀ ss n P, ds_law_having ss n P → ss.length = 3 := by rintro ss n P ⟨kn, rss, m, x, rfl, _⟩; rfl

def ds_Table_eq (cs : Cs) : DSp0 := fun ss n P => ∃ (kn : List Int) (rss : Rows) (x : D), ss = [.d (tabD cs.Table (kn.map D.int) (rss.map rowD)), .d x] ∧
  ((∃ (ln : List Int) (qss : Rows), x = tabD cs.Table (ln.map D.int) (qss.map rowD) ∧ P (.bl (decide (kn = ln) && decide (rss = qss))) n) ∨ (nx x = true ∧ (∀ C ns ds, x ≠ .ins C ns ds) ∧ P (.bl false) n))
theorem len_Table_eq (cs : Cs) : ∀ ss n P, ds_Table_eq cs ss n P → ss.length = 2 := by rintro ss n P ⟨ts, us, x, rfl, _⟩; rfl

def ds_law_told (cs : Cs) : DSp0 := fun ss n P => ∃ (kn : List Int) (rss : Rows), ss = [.st, .d (.dic [.inr "kinds", .inr "rows"] [.tup (kn.map D.int), .tup (rss.map rowD)]), .d (tabD cs.Table (kn.map D.int) (rss.map rowD))] ∧ TabN kn rss ∧ n + 5000 < LIM ∧ ∀ n', n' ≤ n + 4000 → P (.bl true) n'
theorem len_law_told (cs : Cs) : ∀ ss n P, ds_law_told cs ss n P → ss.length = 3 := by rintro ss n P ⟨ts, us, rfl, _⟩; rfl

def ds_law_equal (cs : Cs) : DSp0 := fun ss n P => ∃ (kn : List Int) (rss : Rows), ss = [.st, .d (.dic [.inr "kinds", .inr "rows"] [.tup (kn.map D.int), .tup (rss.map rowD)]), .d (tabD cs.Table (kn.map D.int) (rss.map rowD))] ∧ TabN kn rss ∧ n + 300 < LIM ∧ ∀ n', n' ≤ n + 50 → P (.bl true) n'
theorem len_law_equal (cs : Cs) : ∀ ss n P, ds_law_equal cs ss n P → ss.length = 3 := by rintro ss n P ⟨ts, us, rfl, _⟩; rfl



end Lw

namespace Lw
open L2 PySem DL
local macro_rules | `(tactic| walk_at "dl") => `(tactic| simp only [xOrA, notBD, xsGroups, xsSeq, xCmpA, xCmpO, xsNext, xsSet, xsRet, xsIf, xsDrop, xsPar, xsFor, xVar, xC, xaNil, xaCons, xaSt, xOp, xUn, xCB, xB, xtAnd, xtOr, xtNot, xAndV, xOrV, xNotV, xIf, xTup, xLst, xChain, xDGet, xSl, xoNone, xoSome, xCall0, xCallX, xIsT, xIs, xFld, xDisp, xPairs, xDNew, xLc, xnLc, xtYes, xgName, xgTwo, xiRange1, xiZip, xsSetO, xIxO, xTupO, xsPutO, xsAppO, xsMe, xMake, xjOwn, xLam, xStLeft, xStTurn, xStCells, xsStLeft, xsStTurn, xsLoop, xsRaise, startS, slotD_zero, slotD_succ, slotO_zero, slotO_succ, List.length_cons, List.length_nil, List.replicate, List.cons_append, List.nil_append, List.set, wipeS, addD, subD, intD, cmpD, mulD, isD, isnD, ixD, slD, lenD, tupD, int1D, minD, negD, one1, two2, noOl, true_and, List.map_cons, List.map_nil, eqD, neD, eqP_int, eqP_bl, eqP_str, id, isTy, beq_self_eq_true, Bool.not_true, Bool.not_false, allD, svD, CPow, CMul, xStCells, Option.some.injEq, exists_eq_left', isSt, List.getElem?_cons_zero, List.getElem?_cons_succ, Nat.reduceAdd, Nat.reduceSub, Nat.sub_self, List.replicate_succ, List.replicate_zero, List.append_nil, Nat.zero_add, keyD, Nat.reduceLeDiff, Nat.zero_le, exists_and_left, vd_k, vd_r, xnNil, xnLst, xnList, xsFrz, xsAppO, xiEnum, xgThree, slotE_zero, slotE_succ, noOd, isOd, fldD, xaLam, xCallV, xCallE, xCallKw, gp, gpI, dsX, ds0, neNilD, xSortSc, xSortSet, inTD, slotT_zero, slotT_succ, addLD, notInLI, Bool.and_self, Bool.and_true, Bool.true_and, List.set_cons_zero, List.set_cons_succ])
section
variable {P : Program} {w : PySem.World} {K : PySem.W.Frag} {mg : Str → Option Value} {base : Heap} {TT : Tb} {cs : Cs} {tk0 : Tk}
theorem sc_is_number : FnScope ["thing"] ["thing"] (defScope s_is_number) := ⟨rfl, rfl, rfl, by decide +kernel, rfl, by decide +kernel, by decide +kernel⟩
theorem ok_is_number (T : Txt K mg cs tk0) (D : DefAt K mg "is_number" s_is_number ["thing"]) : Has P w K mg base CX0 1 "is_number" ["thing"] (sp0 K TT ds_is_number) := by
  obtain ⟨f, fd, F, hm, hk, hb⟩ := D
  refine ⟨f, fd, F.okD sc_is_number (len_is_number) (fun S cdv A outer s H E hr => ?_), hm, hk, hb⟩
  refine ⟨_, _, (pss_one (ps_ret (pe_and (pe_callB call_isD (by rfl) T.n_isinstance (by decide +kernel) (pa_cons (pv 0) (pa_cons (pe_bltn rfl T.n_int (by decide +kernel) (v := .ty "int") rfl) pa_nil))) (pe_one (pe_not (pe_callB call_isD (by rfl) T.n_isinstance (by decide +kernel) (pa_cons (pv 0) (pa_cons (pe_bltn rfl T.n_bool (by decide +kernel) (v := .ty "bool") rfl) pa_nil)))))))),
    (rds_ret (rd_andV (rd_isT (by decide) (rd_var (i := 0))) (rd_notV (rd_isT (by decide) (rd_var (i := 0)))))), ?_⟩
  rintro ss n P ⟨d, rfl, hb, p⟩
  walk_at "dl"
  refine ⟨hb, ?_⟩
  cases d <;> first | exact p | exact ⟨hb, p⟩

theorem sc_is_between : FnScope ["thing", "low", "high"] ["thing", "low", "high"] (defScope s_is_between) := ⟨rfl, rfl, rfl, by decide +kernel, rfl, by decide +kernel, by decide +kernel⟩
theorem ok_is_between (T : Txt K mg cs tk0) (D : DefAt K mg "is_between" s_is_between ["thing", "low", "high"]) (c_is_number : Has P w K mg base CX0 1 "is_number" ["thing"] (sp0 K TT ds_is_number)) : Has P w K mg base CX0 2 "is_between" ["thing", "low", "high"] (sp0 K TT ds_is_between) := by
  obtain ⟨f, fd, F, hm, hk, hb⟩ := D
  obtain ⟨_, _, c_is_number_ok, c_is_number_m, c_is_number_k, c_is_number_b⟩ := c_is_number
  refine ⟨f, fd, F.okD sc_is_between (len_is_between) (fun S cdv A outer s H E hr => ?_), hm, hk, hb⟩
  refine ⟨_, _, (pss_one (ps_ret (pe_and (pe_call c_is_number_ok (hr.mono (by decide)) rfl c_is_number_m c_is_number_k c_is_number_b .nil pass0 (pa_cons (pv 0) pa_nil)) (pe_one (pe_chain op_le op_le (pv 1) (pv 0) (pv 2)))))),
    (rds_ret (rd_andV (rd_call0 (E := E0) (rda_cons (rd_var (i := 0)) rda_nil)) (rd_chain o2_cmp o2_cmp (rd_var (i := 1)) (rd_var (i := 0)) (rd_var (i := 2))))), ?_⟩
  rintro ss n P ⟨d, lo, hi, rfl, hb, p⟩
  walk_at "dl"
  refine ⟨d, rfl, hb, ?_⟩
  cases d with
  | int i =>
    simp only [isInt]
    by_cases h1 : lo ≤ i
    · simp only [h1, decide_true]
      simpa [betw, h1] using p
    · simp only [h1, decide_false]
      simpa [betw, h1] using p
  | _ => exact p

theorem sc_is_kind : FnScope ["thing"] ["thing"] (defScope s_is_kind) := ⟨rfl, rfl, rfl, by decide +kernel, rfl, by decide +kernel, by decide +kernel⟩
theorem ok_is_kind (T : Txt K mg cs tk0) (D : DefAt K mg "is_kind" s_is_kind ["thing"]) (c_is_between : Has P w K mg base CX0 2 "is_between" ["thing", "low", "high"] (sp0 K TT ds_is_between)) : Has P w K mg base CX0 3 "is_kind" ["thing"] (sp0 K TT ds_is_kind) := by
  obtain ⟨f, fd, F, hm, hk, hb⟩ := D
  obtain ⟨_, _, c_is_between_ok, c_is_between_m, c_is_between_k, c_is_between_b⟩ := c_is_between
  refine ⟨f, fd, F.okD sc_is_kind (len_is_kind) (fun S cdv A outer s H E hr => ?_), hm, hk, hb⟩
  refine ⟨_, _, (pss_one (ps_ret (pe_call c_is_between_ok (hr.mono (by decide)) rfl c_is_between_m c_is_between_k c_is_between_b .nil pass0 (pa_cons (pv 0) (pa_cons pe_int (pa_cons (pe_glob (v := .int 6) rfl T.k_MOST_KIND.2 ⟨_, rfl⟩) pa_nil)))))),
    (rds_ret (rd_call0 (E := E0) (rda_cons (rd_var (i := 0)) (rda_cons rd_int (rda_cons rd_int rda_nil))))), ?_⟩
  rintro ss n P ⟨d, rfl, hb, p⟩
  walk_at "dl"
  exact ⟨d, 1, 6, rfl, hb, p⟩

theorem sc_are_kinds : FnScope ["thing", "kind"] ["thing"] (defScope s_are_kinds) := ⟨rfl, rfl, rfl, by decide +kernel, rfl, by decide +kernel, by decide +kernel⟩
theorem ok_are_kinds (T : Txt K mg cs tk0) (D : DefAt K mg "_are_kinds" s_are_kinds ["thing"]) (c_is_kind : Has P w K mg base CX0 3 "is_kind" ["thing"] (sp0 K TT ds_is_kind)) : Has P w K mg base CX0 4 "_are_kinds" ["thing"] (sp0 K TT ds_are_kinds) := by
  obtain ⟨f, fd, F, hm, hk, hb⟩ := D
  obtain ⟨_, _, c_is_kind_ok, c_is_kind_m, c_is_kind_k, c_is_kind_b⟩ := c_is_kind
  refine ⟨f, fd, F.okD sc_are_kinds (len_are_kinds) (fun S cdv A outer s H E hr => ?_), hm, hk, hb⟩
  refine ⟨_, _, (pss_cons (ps_if (PW.pt (pw_or (pt_not (pt_val (pe_callB call_isD (by rfl) T.n_isinstance (by decide +kernel) (pa_cons (pv 0) (pa_cons (pe_bltn rfl T.n_tuple (by decide +kernel) (v := .ty "tuple") rfl) pa_nil))))) (pw_or1 (pt_not (pt_chain op_le op_le pe_int (pe_callB call_lenU (by rfl) T.n_len (by decide +kernel) (pa_cons (pv 0) pa_nil)) (pe_glob (v := .int 8) rfl T.k_MOST_MATTERS.2 ⟨_, rfl⟩)))))) (pss_one (ps_ret pe_bl)) pss_nil)
      (pss_one (ps_ret (pe_callB (cr_all rfl) (by rfl) T.n_all (by decide +kernel) (pa_cons (pe_lc (own := [("kind", 1)]) (g := gName 1) rfl sc_are_kinds.nd (pi_tup (pv 0)) (blkOk_by (N := ["thing", "kind"]) (own := [("kind", 1)]) (sc := defScope s_are_kinds) (by decide +kernel)) (fun _ _ _ _ _ => (pg_name (i := 1) sc_are_kinds.nd rfl (by first | exact Or.inl rfl | exact Or.inr rfl))) (fun _ _ _ _ _ => pts_nil) (fun _ _ _ _ _ => (pe_call c_is_kind_ok (hr.mono (by decide)) rfl c_is_kind_m c_is_kind_k c_is_kind_b .nil pass0 (pa_cons (pv 1) pa_nil)))) pa_nil))))),
    (rds_seq (rds_if (rdt_or (rdt_not (rdt_B (rd_isT (by decide) (rd_var (i := 0))))) (rdt_not (rdt_test (rd_chain o2_cmp o2_cmp rd_int (rd_cb cal_len (rda_cons (rd_var (i := 0)) rda_nil)) rd_int)))) (rds_ret rd_bl) rds_next)
      (rds_ret (rd_cb cal_all (rda_cons (rd_lc (rdj_of (rdi_tup (rd_var (i := 0)))) (rdg_name (vs := [1]) (by decide)) rdt_yes (rd_call0 (E := E0) (rda_cons (rd_var (i := 1)) rda_nil))) rda_nil)))), ?_⟩
  rintro ss n P ⟨d, rfl, hb, p⟩
  walk_at "dl"
  refine ⟨bare_of hb, ?_⟩
  cases d with
  | tup ks =>
    simp only [isTy, beq_self_eq_true, Bool.not_true]
    simp only [kindsB] at p
    by_cases h1 : 1 ≤ ks.length
    · have h1' : (1 : Int) ≤ ks.length := by omega
      simp only [h1', decide_true]
      by_cases h2 : ks.length ≤ 8
      · have h2' : (ks.length : Int) ≤ 8 := by omega
        simp only [h2', decide_true, Bool.not_true]
        refine ⟨by omega, compM_map (f := fun x => .bl (betw 1 6 x)) (fun x hx n k q => ⟨x, rfl, bare_of (nxs_mem hb hx), q⟩) (allD_map ?_)⟩
        simpa [h1, h2] using p
      · have h2' : ¬ (ks.length : Int) ≤ 8 := by omega
        simp only [h2', decide_false, Bool.not_false]
        simpa [h2] using p
    · have h1' : ¬ (1 : Int) ≤ ks.length := by omega
      simp only [h1', decide_false]
      simpa [h1] using p
  | _ => exact p

theorem sc_is_cell : FnScope ["kind", "thing"] ["kind", "thing"] (defScope s_is_cell) := ⟨rfl, rfl, rfl, by decide +kernel, rfl, by decide +kernel, by decide +kernel⟩
theorem ok_is_cell (T : Txt K mg cs tk0) (D : DefAt K mg "is_cell" s_is_cell ["kind", "thing"]) (c_is_between : Has P w K mg base CX0 2 "is_between" ["thing", "low", "high"] (sp0 K TT ds_is_between)) : Has P w K mg base CX0 3 "is_cell" ["kind", "thing"] (sp0 K TT ds_is_cell) := by
  obtain ⟨f, fd, F, hm, hk, hb⟩ := D
  obtain ⟨_, _, c_is_between_ok, c_is_between_m, c_is_between_k, c_is_between_b⟩ := c_is_between
  refine ⟨f, fd, F.okD sc_is_cell (len_is_cell) (fun S cdv A outer s H E hr => ?_), hm, hk, hb⟩
  refine ⟨_, _, (pss_one (ps_ret (pe_or (pe_cmpR op_isN (pv 1) pe_non (nomark _)) (pe_one (pe_call c_is_between_ok (hr.mono (by decide)) rfl c_is_between_m c_is_between_k c_is_between_b .nil pass0 (pa_cons (pv 1) (pa_cons pe_int (pa_cons (pe_op op_sub (pv 0) pe_int) pa_nil)))))))),
    (rds_ret (rd_orV (rd_op o2_isN (rd_var (i := 1)) rd_non) (rd_call0 (E := E0) (rda_cons (rd_var (i := 1)) (rda_cons rd_int (rda_cons (rd_op o2_sub (rd_var (i := 0)) rd_int) rda_nil)))))), ?_⟩
  rintro ss n P ⟨k, d, rfl, hb, p⟩
  walk_at "dl"
  cases d <;> exact (by first | exact p | exact ⟨_, _, _, rfl, hb, p⟩)

theorem sc_is_row_for : FnScope ["kinds", "thing", "kind", "cell"] ["kinds", "thing"] (defScope s_is_row_for) := ⟨rfl, rfl, rfl, by decide +kernel, rfl, by decide +kernel, by decide +kernel⟩
theorem ok_is_row_for (T : Txt K mg cs tk0) (D : DefAt K mg "_is_row_for" s_is_row_for ["kinds", "thing"]) (c_is_cell : Has P w K mg base CX0 3 "is_cell" ["kind", "thing"] (sp0 K TT ds_is_cell)) : Has P w K mg base CX0 4 "_is_row_for" ["kinds", "thing"] (sp0 K TT ds_is_row_for) := by
  obtain ⟨f, fd, F, hm, hk, hb⟩ := D
  obtain ⟨_, _, c_is_cell_ok, c_is_cell_m, c_is_cell_k, c_is_cell_b⟩ := c_is_cell
  refine ⟨f, fd, F.okD sc_is_row_for (len_is_row_for) (fun S cdv A outer s H E hr => ?_), hm, hk, hb⟩
  refine ⟨_, _, (pss_cons (ps_if (PW.pt (pw_or (pt_not (pt_val (pe_callB call_isD (by rfl) T.n_isinstance (by decide +kernel) (pa_cons (pv 1) (pa_cons (pe_bltn rfl T.n_tuple (by decide +kernel) (v := .ty "tuple") rfl) pa_nil))))) (pw_or1 (pt_cmpR (op_neU hr.units) (pe_callB call_lenU (by rfl) T.n_len (by decide +kernel) (pa_cons (pv 1) pa_nil)) (pe_callB call_lenU (by rfl) T.n_len (by decide +kernel) (pa_cons (pv 0) pa_nil)) (nomark _))))) (pss_one (ps_ret pe_bl)) pss_nil)
      (pss_one (ps_ret (pe_callB (cr_all rfl) (by rfl) T.n_all (by decide +kernel) (pa_cons (pe_lc (own := [("kind", 2), ("cell", 3)]) (g := gTup _ 2 (gCons (gName 2) (gCons (gName 3) gNil))) rfl sc_is_row_for.nd (RZ.pi_zipA (by rfl) T.n_zip (pa_cons (pv 0) (pa_cons (pv 1) pa_nil))) (blkOk_by (N := ["kinds", "thing", "kind", "cell"]) (own := [("kind", 2), ("cell", 3)]) (sc := defScope s_is_row_for) (by decide +kernel)) (fun _ _ _ _ _ => (pg_tup rfl (pgs_cons (pg_name (i := 2) sc_is_row_for.nd rfl (by first | exact Or.inl rfl | exact Or.inr rfl)) (pgs_cons (pg_name (i := 3) sc_is_row_for.nd rfl (by first | exact Or.inl rfl | exact Or.inr rfl)) pgs_nil)))) (fun _ _ _ _ _ => pts_nil) (fun _ _ _ _ _ => (pe_call c_is_cell_ok (hr.mono (by decide)) rfl c_is_cell_m c_is_cell_k c_is_cell_b .nil pass0 (pa_cons (pv 2) (pa_cons (pv 3) pa_nil))))) pa_nil))))),
    (rds_seq (rds_if (rdt_or (rdt_not (rdt_B (rd_isT (by decide) (rd_var (i := 1))))) (rdt_test (rd_op o2_ne (rd_cb cal_len (rda_cons (rd_var (i := 1)) rda_nil)) (rd_cb cal_len (rda_cons (rd_var (i := 0)) rda_nil))))) (rds_ret rd_bl) rds_next)
      (rds_ret (rd_cb cal_all (rda_cons (rd_lc (rdj_of (rdi_zip (rda_cons (rd_var (i := 0)) (rda_cons (rd_var (i := 1)) rda_nil)))) (rdg_two (vs := [2, 3]) (by decide) (by decide)) rdt_yes (rd_call0 (E := E0) (rda_cons (rd_var (i := 2)) (rda_cons (rd_var (i := 3)) rda_nil)))) rda_nil)))), ?_⟩
  rintro ss n P ⟨ks, d, rfl, hb, hl, hk, p⟩
  walk_at "dl"
  refine ⟨bare_of hb, ?_⟩
  cases d with
  | tup cs =>
    simp only [isTy, beq_self_eq_true, Bool.not_true]
    simp only [rowB] at p
    walk_at "dl"
    by_cases h1 : cs.length = ks.length
    · have h1' : (cs.length : Int) = ks.length := by omega
      rw [show decide ((cs.length : Int) = ks.length) = true from decide_eq_true h1', Bool.not_true]
      refine ⟨by simp [zipD]; omega, ?_⟩
      unfold zipD
      have e : (ks.zip cs).map (fun p => D.bl (cellB p.1 p.2)) = ((ks.zip cs).map fun p => D.tup [p.1, p.2]).map (fun d => match d with | .tup [a, b] => .bl (cellB a b) | _ => .non) := by simp
      refine compM_map (f := fun d => match d with | .tup [a, b] => .bl (cellB a b) | _ => .non) (fun x hx n k q => ?_) ?_
      · obtain ⟨⟨a, b⟩, hp, rfl⟩ := List.mem_map.mp hx
        have ha : betw 1 6 a = true := by
          rw [List.all_eq_true] at hk
          exact hk a (List.of_mem_zip hp).1
        have hb2 : bareD b := bare_of (nxs_mem hb (List.of_mem_zip hp).2)
        cases a with
        | int i => exact ⟨i, b, rfl, hb2, q⟩
        | _ => simp [betw] at ha
      · rw [← e]
        refine ⟨_, blsD_map, ?_⟩
        rw [all_map]
        simpa [h1] using p
    · have h1' : ¬ (cs.length : Int) = ks.length := by omega
      rw [show decide ((cs.length : Int) = ks.length) = false from decide_eq_false h1', Bool.not_false]
      simpa [h1] using p
  | _ => exact p

theorem sc_first_unread : FnScope ["rows", "matter", "row"] ["rows"] (defScope s_first_unread) := ⟨rfl, rfl, rfl, by decide +kernel, rfl, by decide +kernel, by decide +kernel⟩
theorem ok_first_unread (T : Txt K mg cs tk0) (D : DefAt K mg "first_unread" s_first_unread ["rows"]) : Has P w K mg base CX0 1 "first_unread" ["rows"] (sp0 K TT ds_first_unread) := by
  obtain ⟨f, fd, F, hm, hk, hb⟩ := D
  refine ⟨f, fd, F.okD sc_first_unread (len_first_unread) (fun S cdv A outer s H E hr => ?_), hm, hk, hb⟩
  refine ⟨_, _, (pss_cons (ps_for PassesOwn.never rfl (pi_range1 (by rfl) T.n_range (pa_cons (pe_callB call_lenU (by rfl) T.n_len (by decide +kernel) (pa_cons (pe_ix ix_seq (pv 0) pe_int (fun _ _ => rfl)) pa_nil)) pa_nil)) (pg_name (i := 1) sc_first_unread.nd rfl (by first | exact Or.inl rfl | exact Or.inr rfl)) (pss_one (ps_if (pt_val (pe_callB (cr_all rfl) (by rfl) T.n_all (by decide +kernel) (pa_cons (pe_lc (own := [("row", 2)]) (g := gName 2) rfl sc_first_unread.nd (pi_tup (pv 0)) (blkOk_by (N := ["rows", "matter", "row"]) (own := [("row", 2)]) (sc := defScope s_first_unread) (by decide +kernel)) (fun _ _ _ _ _ => (pg_name (i := 2) sc_first_unread.nd rfl (by first | exact Or.inl rfl | exact Or.inr rfl))) (fun _ _ _ _ _ => pts_nil) (fun _ _ _ _ _ => (pe_cmpR op_isN (pe_ix ix_seq (pv 2) (pv 1) (fun _ _ => rfl)) pe_non (nomark _)))) pa_nil))) (pss_one (ps_ret (pv 1))) pss_nil)))
      (pss_one (ps_ret pe_non))),
    (rds_seq (rds_for (rdi_range1 (rda_cons (rd_cb cal_len (rda_cons (rd_op o2_ix (rd_var (i := 0)) rd_int) rda_nil)) rda_nil)) (rdg_name (vs := [1]) (by decide)) (rds_if (rdt_B (rd_cb cal_all (rda_cons (rd_lc (rdj_of (rdi_tup (rd_var (i := 0)))) (rdg_name (vs := [2]) (by decide)) rdt_yes (rd_op o2_isN (rd_op o2_ix (rd_var (i := 2)) (rd_var (i := 1))) rd_non)) rda_nil))) (rds_ret (rd_var (i := 1))) rds_next))
      (rds_ret rd_non)), ?_⟩
  rintro ss n P ⟨m, rs, rfl, h1, h2, h3, hr, p⟩
  walk_at "dl"
  have h0 : ∃ c0 : List D, atD rs 0 = some (.tup c0) ∧ c0.length = m := by
    cases rs with
    | nil => simp at h1
    | cons a b =>
      obtain ⟨c0, rfl, hc⟩ := hr a List.mem_cons_self
      exact ⟨c0, at_zero, hc⟩
  obtain ⟨c0, e0, hc0⟩ := h0
  refine ⟨_, e0, ?_⟩
  walk_at "dl"
  refine ⟨by omega, by omega, fun i ρ n' => n' = n ∧ (∃ s1 s2, ρ = [.d (.tup rs), s1, s2]) ∧ ∀ j < i, colU rs j = false, ⟨rfl, ⟨_, _, rfl⟩, fun j hj => by omega⟩, ?_, ?_⟩
  · rintro i x ρ n' hx ⟨rfl, ⟨s1, s2, rfl⟩, hI⟩
    have hi : i < m ∧ x = .int (i : Int) := by
      unfold rangeD at hx
      rw [List.getElem?_map] at hx
      rw [Int.toNat_natCast] at hx
      cases e : (List.range c0.length)[i]? with
      | none => rw [e] at hx; cases hx
      | some j =>
        rw [e] at hx
        have h2 := List.getElem?_eq_some_iff.mp e
        obtain ⟨h3, h4⟩ := h2
        simp at h3 h4
        subst h4
        cases hx
        exact ⟨by omega, by simp⟩
    obtain ⟨hi, rfl⟩ := hi
    walk_at "dl"
    refine ⟨by omega, compM_map (f := fun r => .bl (DL.isNon (atN r i))) (fun r hm n2 k q => ?_) (allD_map ?_)⟩
    · obtain ⟨cs, rfl, hc⟩ := hr r hm
      have e : cs[i]? = some cs[i] := List.getElem?_eq_getElem (by omega)
      refine ⟨_, at_nat e, ?_⟩
      have z : atN (.tup cs) i = cs[i] := by
        show cs.getD i .non = cs[i]
        rw [List.getD_eq_getElem?_getD, e]
        rfl
      rw [z] at q
      exact q
    · cases hc : colU rs i with
      | true =>
        rw [show (rs.all fun r => DL.isNon (atN r i)) = true from hc]
        rw [firstU_some hi hc hI] at p
        exact p
      | false =>
        rw [show (rs.all fun r => DL.isNon (atN r i)) = false from hc]
        refine ⟨rfl, ⟨_, _, rfl⟩, fun j hj => ?_⟩
        by_cases e : j = i
        · rw [e]; exact hc
        · exact hI j (by omega)
  · rintro ρ n' ⟨rfl, _, hI⟩
    rw [firstU_none (fun j hj => hI j (by simp [rangeD]; omega))] at p
    exact p

theorem sc_are_rows : FnScope ["kinds", "thing", "row"] ["kinds", "thing"] (defScope s_are_rows) := ⟨rfl, rfl, rfl, by decide +kernel, rfl, by decide +kernel, by decide +kernel⟩
theorem ok_are_rows (T : Txt K mg cs tk0) (D : DefAt K mg "_are_rows" s_are_rows ["kinds", "thing"]) (c_is_row_for : Has P w K mg base CX0 4 "_is_row_for" ["kinds", "thing"] (sp0 K TT ds_is_row_for)) (c_first_unread : Has P w K mg base CX0 1 "first_unread" ["rows"] (sp0 K TT ds_first_unread)) : Has P w K mg base CX0 5 "_are_rows" ["kinds", "thing"] (sp0 K TT ds_are_rows) := by
  obtain ⟨f, fd, F, hm, hk, hb⟩ := D
  obtain ⟨_, _, c_is_row_for_ok, c_is_row_for_m, c_is_row_for_k, c_is_row_for_b⟩ := c_is_row_for
  obtain ⟨_, _, c_first_unread_ok, c_first_unread_m, c_first_unread_k, c_first_unread_b⟩ := c_first_unread
  refine ⟨f, fd, F.okD sc_are_rows (len_are_rows) (fun S cdv A outer s H E hr => ?_), hm, hk, hb⟩
  refine ⟨_, _, (pss_cons (ps_if (PW.pt (pw_or (pt_not (pt_val (pe_callB call_isD (by rfl) T.n_isinstance (by decide +kernel) (pa_cons (pv 1) (pa_cons (pe_bltn rfl T.n_tuple (by decide +kernel) (v := .ty "tuple") rfl) pa_nil))))) (pw_or1 (pt_not (pt_chain op_le op_le pe_int (pe_callB call_lenU (by rfl) T.n_len (by decide +kernel) (pa_cons (pv 1) pa_nil)) (pe_glob (v := .int 12) rfl T.k_MOST_VALLEYS.2 ⟨_, rfl⟩)))))) (pss_one (ps_ret pe_bl)) pss_nil)
      (pss_one (ps_ret (pe_and (pe_callB (cr_all rfl) (by rfl) T.n_all (by decide +kernel) (pa_cons (pe_lc (own := [("row", 2)]) (g := gName 2) rfl sc_are_rows.nd (pi_tup (pv 1)) (blkOk_by (N := ["kinds", "thing", "row"]) (own := [("row", 2)]) (sc := defScope s_are_rows) (by decide +kernel)) (fun _ _ _ _ _ => (pg_name (i := 2) sc_are_rows.nd rfl (by first | exact Or.inl rfl | exact Or.inr rfl))) (fun _ _ _ _ _ => pts_nil) (fun _ _ _ _ _ => (pe_call c_is_row_for_ok (hr.mono (by decide)) rfl c_is_row_for_m c_is_row_for_k c_is_row_for_b .nil pass0 (pa_cons (pv 0) (pa_cons (pv 2) pa_nil))))) pa_nil)) (pe_one (pe_cmpR op_isN (pe_call c_first_unread_ok (hr.mono (by decide)) rfl c_first_unread_m c_first_unread_k c_first_unread_b .nil pass0 (pa_cons (pv 1) pa_nil)) pe_non (nomark _))))))),
    (rds_seq (rds_if (rdt_or (rdt_not (rdt_B (rd_isT (by decide) (rd_var (i := 1))))) (rdt_not (rdt_test (rd_chain o2_cmp o2_cmp rd_int (rd_cb cal_len (rda_cons (rd_var (i := 1)) rda_nil)) rd_int)))) (rds_ret rd_bl) rds_next)
      (rds_ret (rd_andV (rd_cb cal_all (rda_cons (rd_lc (rdj_of (rdi_tup (rd_var (i := 1)))) (rdg_name (vs := [2]) (by decide)) rdt_yes (rd_call0 (E := E0) (rda_cons (rd_var (i := 0)) (rda_cons (rd_var (i := 2)) rda_nil)))) rda_nil)) (rd_op o2_isN (rd_call0 (E := E0) (rda_cons (rd_var (i := 1)) rda_nil)) rd_non)))), ?_⟩
  rintro ss n P ⟨ks, d, rfl, hb, hk, p⟩
  simp only [kindsB, Bool.and_eq_true, decide_eq_true_eq] at hk
  walk_at "dl"
  refine ⟨bare_of hb, ?_⟩
  cases d with
  | tup rs =>
    simp only [isTy, beq_self_eq_true, Bool.not_true]
    simp only [rowsB] at p
    by_cases h1 : 1 ≤ rs.length
    · have h1' : (1 : Int) ≤ rs.length := by omega
      simp only [h1', decide_true]
      by_cases h2 : rs.length ≤ 12
      · have h2' : (rs.length : Int) ≤ 12 := by omega
        simp only [h2', decide_true, Bool.not_true]
        refine ⟨by omega, compM_map (f := fun x => .bl (rowB ks x)) (fun x hx n k q => ⟨ks, x, rfl, nxs_mem hb hx, Nat.le_trans hk.1.2 (by decide), hk.2, q⟩) (allD_map ?_)⟩
        simp only [h1, h2, decide_true, Bool.true_and] at p
        cases hr : rs.all (rowB ks) with
        | false =>
          rw [hr] at p
          exact p
        | true =>
          rw [hr] at p
          simp only [Bool.true_and] at p
          refine ⟨ks.length, rs, rfl, by omega, by omega, by omega, fun r hm => ?_, ?_⟩
          · rw [List.all_eq_true] at hr
            obtain ⟨cs, e1, e2, _⟩ := rowB_inv (hr r hm)
            exact ⟨cs, e1, e2⟩
          · cases hf : firstU ks.length rs with
            | none => rw [hf] at p; exact p
            | some j => rw [hf] at p; exact p
      · have h2' : ¬ (rs.length : Int) ≤ 12 := by omega
        simp only [h2', decide_false, Bool.not_false]
        simpa [h2] using p
    · have h1' : ¬ (1 : Int) ≤ rs.length := by omega
      simp only [h1', decide_false]
      simpa [h1] using p
  | _ => exact p

theorem sc_law_put : FnScope ["row", "spot", "item"] ["row", "spot", "item"] (defScope s_law_put) := ⟨rfl, rfl, rfl, by decide +kernel, rfl, by decide +kernel, by decide +kernel⟩
theorem ok_law_put (T : Txt K mg cs tk0) (D : DefAt K mg "_law_put" s_law_put ["row", "spot", "item"]) : Has P w K mg base CX0 1 "_law_put" ["row", "spot", "item"] (sp0 K TT ds_law_put) := by
  obtain ⟨f, fd, F, hm, hk, hb⟩ := D
  refine ⟨f, fd, F.okD sc_law_put (len_law_put) (fun S cdv A outer s H E hr => ?_), hm, hk, hb⟩
  refine ⟨_, _, (pss_one (ps_ret (pe_op op_addU (pe_op op_addU (pe_slice sl_U (pv 0) po_none (po_some (pv 1))) (pe_tup (pa_cons (pv 2) pa_nil))) (pe_slice sl_U (pv 0) (po_some (pe_op op_addU (pv 1) pe_int)) po_none)))),
    (rds_ret (rd_op o2_add (rd_op o2_add (rd_sl (rd_var (i := 0)) rdo_none (rdo_some (rd_var (i := 1)))) (rd_tup (rda_cons (rd_var (i := 2)) rda_nil))) (rd_sl (rd_var (i := 0)) (rdo_some (rd_op o2_add (rd_var (i := 1)) rd_int)) rdo_none))), ?_⟩
  rintro ss n P ⟨xs, i, d, rfl, hi, hl, p⟩
  walk_at "dl"
  rw [cut_to, cut_from1]
  exact ⟨by simp; omega, by simp; omega, p⟩

theorem sc_law_draw : FnScope ["state", "size_here", "turn", "cell", "mixed", "found"] ["state", "size_here"] (defScope s_law_draw) := ⟨rfl, rfl, rfl, by decide +kernel, rfl, by decide +kernel, by decide +kernel⟩
theorem ok_law_draw (T : Txt K mg cs tk0) (D : DefAt K mg "_law_draw" s_law_draw ["state", "size_here"]) : Has P w K mg base CX0 1 "_law_draw" ["state", "size_here"] (sp0 K TT ds_law_draw) := by
  obtain ⟨f, fd, F, hm, hk, hb⟩ := D
  refine ⟨f, fd, F.okD sc_law_draw (len_law_draw) (fun S cdv A outer s H E hr => ?_), hm, hk, hb⟩
  refine ⟨_, _, (pss_cons (ps_while PassesOwn.never (PW.pt (pw_and (pt_cmpR (op_eqD hr.units) (pe_dget (hu_of hr) (pv 0) pe_str (fun _ _ => rfl)) pe_int (nomark _)) (pw_and1 (pt_cmpR (op_neD hr.units) (pe_dget (hu_of hr) (pv 0) pe_str (fun _ _ => rfl)) (pe_lst pa_nil) (nomark _))))) (pss_one (ps_dput (hu_of hr) (pv 0) pe_str (pe_bm PySem.F.plainAttrs_list PySem.F.slot_list_pop PySem.F.type_list_pop mt_popAt (pe_dget (hu_of hr) (pv 0) pe_str (fun _ _ => rfl)) (pa_cons pe_int pa_nil)) rfl)))
      (pss_cons (ps_if (pt_cmpR op_gt (pe_dget (hu_of hr) (pv 0) pe_str (fun _ _ => rfl)) pe_int (nomark _)) (pss_cons (ps_set (i := 5) sc_law_draw.nd rfl (by first | exact Or.inl rfl | exact Or.inr rfl) (pe_op op_modN (pe_callTy call_rInt1 (by rfl) T.n_int (by decide +kernel) (pa_cons (pe_dget (hu_of hr) (pv 0) pe_str (fun _ _ => rfl)) pa_nil)) (pv 1)))
      (pss_cons (ps_dput (hu_of hr) (pv 0) pe_str (pe_op op_fdivN (pe_dget (hu_of hr) (pv 0) pe_str (fun _ _ => rfl)) (pv 1)) rfl)
      (pss_one (ps_ret (pv 5))))) pss_nil)
      (pss_cons (ps_set (i := 2) sc_law_draw.nd rfl (by first | exact Or.inl rfl | exact Or.inr rfl) (pe_op op_addU (pe_dget (hu_of hr) (pv 0) pe_str (fun _ _ => rfl)) pe_int))
      (pss_cons (ps_dput (hu_of hr) (pv 0) pe_str (pv 2) rfl)
      (pss_cons (ps_set (i := 3) sc_law_draw.nd rfl (by first | exact Or.inl rfl | exact Or.inr rfl) (pe_ifExp (pt_cmpR (op_neU hr.units) (pe_dget (hu_of hr) (pv 0) pe_str (fun _ _ => rfl)) (pe_lst pa_nil) (nomark _)) (pe_ix ix_seq (pe_dget (hu_of hr) (pv 0) pe_str (fun _ _ => rfl)) (pe_op op_modN (pe_callTy call_rInt1 (by rfl) T.n_int (by decide +kernel) (pa_cons (pv 2) pa_nil)) (pe_callB call_lenU (by rfl) T.n_len (by decide +kernel) (pa_cons (pe_dget (hu_of hr) (pv 0) pe_str (fun _ _ => rfl)) pa_nil))) (fun _ _ => rfl)) pe_int))
      (pss_cons (ps_set (i := 4) sc_law_draw.nd rfl (by first | exact Or.inl rfl | exact Or.inr rfl) (pe_op op_modN (pe_callTy call_rInt1 (by rfl) T.n_int (by decide +kernel) (pa_cons (pe_op op_pow (pe_op op_addU (pe_op op_addU (pe_op op_modN (pe_callTy call_rInt1 (by rfl) T.n_int (by decide +kernel) (pa_cons (pv 3) pa_nil)) pe_int) (pe_op op_mulU pe_int (pv 2))) pe_int) pe_int) pa_nil)) pe_int))
      (pss_one (ps_ret (pe_op op_modN (pe_callTy call_rInt1 (by rfl) T.n_int (by decide +kernel) (pa_cons (pe_op op_fdivN (pe_op op_modN (pe_callTy call_rInt1 (by rfl) T.n_int (by decide +kernel) (pa_cons (pe_op op_pow (pe_op op_addU (pv 4) (pe_op op_mulU pe_int (pv 2))) pe_int) pa_nil)) pe_int) pe_int) pa_nil)) (pv 1)))))))))),
    (rds_seq (rds_loop (i := 0))
      (rds_seq (rds_if (rdt_test (rd_op o2_cmp (rd_stLeft (i := 0)) rd_int)) (rds_seq (rds_set (rd_op o2_int (rd_cb cal_int (rda_cons (rd_stLeft (i := 0)) rda_nil)) (rd_var (i := 1))))
      (rds_seq (rds_stLeft (i := 0) (rd_op o2_int (rd_stLeft (i := 0)) (rd_var (i := 1))))
      (rds_ret (rd_var (i := 5))))) rds_next)
      (rds_seq (rds_set (rd_op o2_add (rd_stTurn (i := 0)) rd_int))
      (rds_seq (rds_stTurn (i := 0) (rd_var (i := 2)))
      (rds_seq (rds_set (rd_if (rdt_test (rd_op o2_ne (rd_stCells (i := 0)) (rd_lst rda_nil))) (rd_op o2_ix (rd_stCells (i := 0)) (rd_op o2_int (rd_cb cal_int (rda_cons (rd_var (i := 2)) rda_nil)) (rd_cb cal_len (rda_cons (rd_stCells (i := 0)) rda_nil)))) rd_int))
      (rds_seq (rds_set (rd_op o2_int (rd_cb cal_int (rda_cons (rd_op o2_int (rd_op o2_add (rd_op o2_add (rd_op o2_int (rd_cb cal_int (rda_cons (rd_var (i := 3)) rda_nil)) rd_int) (rd_op o2_mul rd_int (rd_var (i := 2)))) rd_int) rd_int) rda_nil)) rd_int))
      (rds_ret (rd_op o2_int (rd_cb cal_int (rda_cons (rd_op o2_int (rd_op o2_int (rd_cb cal_int (rda_cons (rd_op o2_int (rd_op o2_add (rd_var (i := 4)) (rd_op o2_mul rd_int (rd_var (i := 2)))) rd_int) rda_nil)) rd_int) rd_int) rda_nil)) (rd_var (i := 1)))))))))), ?_⟩
  rintro ss n P ⟨z, rfl, h0, h1, hn, p⟩
  have hn' : n < 1099511627776 := hn
  walk_at "dl"
  intro m hm
  by_cases hm0 : 0 < m
  · rw [show decide (0 < m) = true from decide_eq_true hm0]
    exact fun m hm => ⟨by omega, fun m1 hm1 => ⟨⟨by omega, by omega⟩, Int.fdiv_nonneg hm1 (by omega), p _ _ (Int.fmod_nonneg_of_pos _ h0) (Int.fmod_lt_of_pos _ h0) (by omega)⟩⟩
  · rw [show decide (0 < m) = false from decide_eq_false hm0]
    refine fun t ht => ⟨by omega, fun hc hl => eq_ints ?_⟩
    cases he : S.cs.isEmpty with
    | false =>
      refine fun _ _ _ _ => ⟨?_, ?_⟩
      · cases hcs : S.cs with
        | nil => rw [hcs] at he; cases he
        | cons a b => simp <;> omega
      · have hpos : (0 : Int) < S.cs.length := by
          cases hcs : S.cs with
          | nil => rw [hcs] at he; cases he
          | cons a b => simp <;> omega
        rw [List.length_map]
        obtain ⟨j, hj⟩ := Int.eq_ofNat_of_zero_le (Int.fmod_nonneg_of_pos ((t : Int) + 1) hpos)
        have hj2 := Int.fmod_lt_of_pos ((t : Int) + 1) hpos
        rw [hj] at hj2 ⊢
        have hj3 : j < S.cs.length := by omega
        have e : (S.cs.map D.int)[j]? = some (.int S.cs[j]) := by rw [List.getElem?_map, List.getElem?_eq_getElem hj3]; rfl
        refine ⟨_, at_nat e, ?_⟩
        clear hj hj2 e
        generalize S.cs[j] = c
        walk_at "dl"
        refine ⟨by decide, .inl ⟨by decide, by decide⟩, ⟨by decide, by decide, ?_⟩, by decide, .inl ⟨by decide, by decide⟩, ⟨by decide, by decide, ?_⟩, by decide, ⟨by decide, by decide⟩, by omega, p _ _ (Int.fmod_nonneg_of_pos _ h0) (Int.fmod_lt_of_pos _ h0) (by omega)⟩
        · have a1 := Int.fmod_nonneg_of_pos c (show (0 : Int) < 2147483563 by decide)
          have a2 := Int.fmod_lt_of_pos c (show (0 : Int) < 2147483563 by decide)
          omega
        · generalize (Int.fmod c 2147483563 + 40692 * ((t : Int) + 1) + 24681) ^ Int.toNat 3 = y
          have a1 := Int.fmod_nonneg_of_pos y (show (0 : Int) < 2147483629 by decide)
          have a2 := Int.fmod_lt_of_pos y (show (0 : Int) < 2147483629 by decide)
          omega
    | true =>
      walk_at "dl"
      refine ⟨by decide, .inl ⟨by decide, by decide⟩, ⟨by decide, by decide, ?_⟩, by decide, .inl ⟨by decide, by decide⟩, ⟨by decide, by decide, ?_⟩, by decide, ⟨by decide, by decide⟩, by omega, p _ _ (Int.fmod_nonneg_of_pos _ h0) (Int.fmod_lt_of_pos _ h0) (by omega)⟩
      · have a1 := Int.fmod_nonneg_of_pos 0 (show (0 : Int) < 2147483563 by decide)
        have a2 := Int.fmod_lt_of_pos 0 (show (0 : Int) < 2147483563 by decide)
        omega
      · generalize (Int.fmod 0 2147483563 + 40692 * ((t : Int) + 1) + 24681) ^ Int.toNat 3 = y
        have a1 := Int.fmod_nonneg_of_pos y (show (0 : Int) < 2147483629 by decide)
        have a2 := Int.fmod_lt_of_pos y (show (0 : Int) < 2147483629 by decide)
        omega

theorem sc_law_pick : FnScope ["state", "several"] ["state", "several"] (defScope s_law_pick) := ⟨rfl, rfl, rfl, by decide +kernel, rfl, by decide +kernel, by decide +kernel⟩
theorem ok_law_pick (T : Txt K mg cs tk0) (D : DefAt K mg "_law_pick" s_law_pick ["state", "several"]) (c_law_draw : Has P w K mg base CX0 1 "_law_draw" ["state", "size_here"] (sp0 K TT ds_law_draw)) : Has P w K mg base CX0 2 "_law_pick" ["state", "several"] (sp0 K TT ds_law_pick) := by
  obtain ⟨f, fd, F, hm, hk, hb⟩ := D
  obtain ⟨_, _, c_law_draw_ok, c_law_draw_m, c_law_draw_k, c_law_draw_b⟩ := c_law_draw
  refine ⟨f, fd, F.okD sc_law_pick (len_law_pick) (fun S cdv A outer s H E hr => ?_), hm, hk, hb⟩
  refine ⟨_, _, (pss_one (ps_ret (pe_ix ix_seq (pv 1) (pe_call c_law_draw_ok (hr.mono (by decide)) rfl c_law_draw_m c_law_draw_k c_law_draw_b .nil pass0 (pa_cons (pv 0) (pa_cons (pe_callB call_lenU (by rfl) T.n_len (by decide +kernel) (pa_cons (pv 1) pa_nil)) pa_nil))) (fun _ _ => rfl)))),
    (rds_ret (rd_op o2_ix (rd_var (i := 1)) (rd_call0 (E := E0) (rda_st (i := 0) (rda_cons (rd_cb cal_len (rda_cons (rd_var (i := 1)) rda_nil)) rda_nil))))), ?_⟩
  rintro ss n P ⟨xs, hs, h0, h1, hn, p⟩
  have go : ∀ (r : Int) (n' : Nat), 0 ≤ r → r < xs.length → n' ≤ n + 1 → ∃ d, atD xs r = some d ∧ P d n' := fun r n' h2 h3 h4 => by
    obtain ⟨j, rfl⟩ := Int.eq_ofNat_of_zero_le h2
    have hj : j < xs.length := by omega
    exact ⟨xs[j], at_nat (List.getElem?_eq_getElem hj), p _ (List.getElem_mem hj) _ h4⟩
  rcases hs with rfl | rfl
  · walk_at "dl"
    exact ⟨_, rfl, by omega, by omega, hn, go⟩
  · walk_at "dl"
    exact ⟨_, rfl, by omega, by omega, hn, go⟩

theorem sc_law_bad_table : FnScope ["state"] ["state"] (defScope s_law_bad_table) := ⟨rfl, rfl, rfl, by decide +kernel, rfl, by decide +kernel, by decide +kernel⟩
theorem ok_law_bad_table (T : Txt K mg cs tk0) (D : DefAt K mg "_law_bad_table" s_law_bad_table ["state"]) (c_law_pick : Has P w K mg base CX0 2 "_law_pick" ["state", "several"] (sp0 K TT ds_law_pick)) : Has P w K mg base CX0 3 "_law_bad_table" ["state"] (sp0 K TT ds_law_bad_table) := by
  obtain ⟨f, fd, F, hm, hk, hb⟩ := D
  obtain ⟨_, _, c_law_pick_ok, c_law_pick_m, c_law_pick_k, c_law_pick_b⟩ := c_law_pick
  refine ⟨f, fd, F.okD sc_law_bad_table (len_law_bad_table) (fun S cdv A outer s H E hr => ?_), hm, hk, hb⟩
  refine ⟨_, _, (pss_one (ps_ret (pe_call c_law_pick_ok (hr.mono (by decide)) rfl c_law_pick_m c_law_pick_k c_law_pick_b .nil pass0 (pa_cons (pv 0) (pa_cons (pe_lst (pa_cons pe_non (pa_cons pe_int (pa_cons (pe_tup pa_nil) (pa_cons pe_dnewK (pa_cons pe_str (pa_cons (pe_tup (pa_cons (pe_tup (pa_cons pe_int pa_nil)) (pa_cons (pe_tup (pa_cons (pe_tup (pa_cons pe_int pa_nil)) pa_nil)) pa_nil))) pa_nil))))))) pa_nil))))),
    (rds_ret (rd_call0 (E := E0) (rda_st (i := 0) (rda_cons (rd_lst (rda_cons rd_non (rda_cons rd_int (rda_cons (rd_tup rda_nil) (rda_cons rd_dnew (rda_cons rd_str (rda_cons (rd_tup (rda_cons (rd_tup (rda_cons rd_int rda_nil)) (rda_cons (rd_tup (rda_cons (rd_tup (rda_cons rd_int rda_nil)) rda_nil)) rda_nil))) rda_nil))))))) rda_nil)))), ?_⟩
  rintro ss n P ⟨rfl, hn, p⟩
  walk_at "dl"
  refine ⟨_, .inr rfl, by simp, by simp, hn, fun x hx n' h => ?_⟩
  have z : nx x = true ∧ ∀ C ns ds, x ≠ .ins C ns ds := by
    revert x
    simp [nx, nxs]
  exact p _ _ h z.1 z.2

theorem sc_law_cell : FnScope ["state", "size_here"] ["state", "size_here"] (defScope s_law_cell) := ⟨rfl, rfl, rfl, by decide +kernel, rfl, by decide +kernel, by decide +kernel⟩
theorem ok_law_cell (T : Txt K mg cs tk0) (D : DefAt K mg "_law_cell" s_law_cell ["state", "size_here"]) (c_law_draw : Has P w K mg base CX0 1 "_law_draw" ["state", "size_here"] (sp0 K TT ds_law_draw)) : Has P w K mg base CX0 2 "_law_cell" ["state", "size_here"] (sp0 K TT ds_law_cell) := by
  obtain ⟨f, fd, F, hm, hk, hb⟩ := D
  obtain ⟨_, _, c_law_draw_ok, c_law_draw_m, c_law_draw_k, c_law_draw_b⟩ := c_law_draw
  refine ⟨f, fd, F.okD sc_law_cell (len_law_cell) (fun S cdv A outer s H E hr => ?_), hm, hk, hb⟩
  refine ⟨_, _, (pss_one (ps_ret (pe_ifExp (pt_cmpR (op_eqU hr.units) (pe_call c_law_draw_ok (hr.mono (by decide)) rfl c_law_draw_m c_law_draw_k c_law_draw_b .nil pass0 (pa_cons (pv 0) (pa_cons pe_int pa_nil))) pe_int (nomark _)) pe_non (pe_call c_law_draw_ok (hr.mono (by decide)) rfl c_law_draw_m c_law_draw_k c_law_draw_b .nil pass0 (pa_cons (pv 0) (pa_cons (pv 1) pa_nil)))))),
    (rds_ret (rd_if (rdt_test (rd_op o2_eq (rd_call0 (E := E0) (rda_st (i := 0) (rda_cons rd_int rda_nil))) rd_int)) rd_non (rd_call0 (E := E0) (rda_st (i := 0) (rda_cons (rd_var (i := 1)) rda_nil))))), ?_⟩
  rintro ss n P ⟨k, rfl, h0, h1, hn, p⟩
  walk_at "dl"
  have hn' : n + 2 < 1099511627776 := hn
  refine ⟨5, rfl, by decide, by decide, by show n < 1099511627776; omega, fun r n1 r0 r1 h2 => ?_⟩
  walk_at "dl"
  by_cases hr0 : r = 0
  · rw [show decide (r = 0) = true from decide_eq_true hr0]
    exact p _ _ (by omega) rfl
  · rw [show decide (r = 0) = false from decide_eq_false hr0]
    refine ⟨k, rfl, by omega, by omega, by show n1 < 1099511627776; omega, fun r n2 r0 r1 h3 => p _ _ (by omega) ?_⟩
    simp [cellB]
    omega

theorem sc_Table_init : FnScope ["self", "kinds", "rows"] ["self", "kinds", "rows"] (defScope s_Table_init) := ⟨rfl, rfl, rfl, by decide +kernel, rfl, by decide +kernel, by decide +kernel⟩
theorem ok_Table_init (T : Txt K mg cs tk0) (D : Init2 K "Table.__init__" cs.Table s_Table_init "kinds" "rows") (c_are_kinds : Has P w K mg base CX0 4 "_are_kinds" ["thing"] (sp0 K TT ds_are_kinds)) (c_are_rows : Has P w K mg base CX0 5 "_are_rows" ["kinds", "thing"] (sp0 K TT ds_are_rows)) : HasI P w K mg base 6 cs.Table "kinds" "rows" (spI K TT cs.Table (ds_Table_init cs)) := by
  obtain ⟨f, fd, F, hm, hk, hb⟩ := D
  obtain ⟨_, _, c_are_kinds_ok, c_are_kinds_m, c_are_kinds_k, c_are_kinds_b⟩ := c_are_kinds
  obtain ⟨_, _, c_are_rows_ok, c_are_rows_m, c_are_rows_k, c_are_rows_b⟩ := c_are_rows
  refine ⟨f, fd, okI F sc_Table_init (len_Table_init cs) (fun S cdv A outer s H E hr => ?_), hm, hk, hb⟩
  have tk := takes_of (X := cxOf (L2.CX P w) P w K mg base ["self", "kinds", "rows"] "Table.__init__" (defScope s_Table_init) f cdv A outer s H E) (E := E) rfl rfl rfl rfl
  refine ⟨_, _, (pss_cons (ps_if (pt_not (pt_val (pe_call c_are_kinds_ok (hr.mono (by decide)) rfl c_are_kinds_m c_are_kinds_k c_are_kinds_b .nil pass0 (pa_cons (pv 1) pa_nil)))) (pss_one (ps_raise (W := fun cls d _ H => E cls d H) rfl tk (pmk_own PySem.F.excBase_ValueError T.x_BadKinds T.g_BadKinds T.e_BadKinds (raises_own T.b_BadKinds T.t_BadKinds) rfl))) pss_nil)
      (pss_cons (ps_if (pt_not (pt_val (pe_call c_are_rows_ok (hr.mono (by decide)) rfl c_are_rows_m c_are_rows_k c_are_rows_b .nil pass0 (pa_cons (pv 1) (pa_cons (pv 2) pa_nil))))) (pss_one (ps_raise (W := fun cls d _ H => E cls d H) rfl tk (pmk_own PySem.F.excBase_ValueError T.x_BadRows T.g_BadRows T.e_BadRows (raises_own T.b_BadRows T.t_BadRows) rfl))) pss_nil)
      (pss_cons (ps_fld (pv 0) (pv 1) rfl)
      (pss_one (ps_fld (pv 0) (pv 2) rfl))))),
    (rds_seq (rds_if (rdt_not (rdt_B (rd_call0 (E := E0) (rda_cons (rd_var (i := 1)) rda_nil)))) rds_raise rds_next)
      (rds_seq (rds_if (rdt_not (rdt_B (rd_call0 (E := E0) (rda_cons (rd_var (i := 1)) (rda_cons (rd_var (i := 2)) rda_nil))))) rds_raise rds_next)
      (rds_seq (rds_fldM (rd_var (i := 1)))
      (rds_fldM (rd_var (i := 2)))))), ?_⟩
  rintro y ss n P XP ⟨k, r, rfl, hk, hr', h1, h2, h3⟩
  walk_at "dl"
  refine ⟨k, rfl, hk, ?_⟩
  cases e : kindsB k with
  | false => exact h1 e
  | true =>
    cases k with
    | tup ks =>
      refine ⟨ks, r, rfl, hr', e, ?_⟩
      cases e2 : rowsB ks r with
      | false => exact h2 e e2
      | true => exact ⟨rfl, T.ic_Table.cl, T.na_Table_kinds, by decide, by decide, rfl, T.ic_Table.cl, T.na_Table_rows, by decide, by decide, rfl, rfl, h3 e e2⟩
    | _ => simp [kindsB] at e

theorem sc_check_table : FnScope ["table"] ["table"] (defScope s_check_table) := ⟨rfl, rfl, rfl, by decide +kernel, rfl, by decide +kernel, by decide +kernel⟩
theorem ok_check_table (T : Txt K mg cs tk0) (D : DefAt K mg "check_table" s_check_table ["table"]) : Has P w K mg base (L2.CX P w) 1 "check_table" ["table"] (spX K TT (ds_check_table cs)) := by
  obtain ⟨f, fd, F, hm, hk, hb⟩ := D
  refine ⟨f, fd, F.okXD sc_check_table (len_check_table cs) (fun S cdv A outer s H E hr => ?_), hm, hk, hb⟩
  have tk := takes_of (X := cxOf (L2.CX P w) P w K mg base ["table"] "check_table" (defScope s_check_table) f cdv A outer s H E) (E := E) rfl rfl rfl rfl
  refine ⟨_, _, (pss_one (ps_if (pt_not (pt_val (pe_callB call_isD (by rfl) T.n_isinstance (by decide +kernel) (pa_cons (pv 0) (pa_cons (pe_glob (v := .ref cs.Table) rfl T.g_Table rfl) pa_nil))))) (pss_one (ps_raise (W := fun cls d _ H => E cls d H) rfl tk (pmk_own PySem.F.excBase_ValueError T.x_BadTable T.g_BadTable T.e_BadTable (raises_own T.b_BadTable T.t_BadTable) rfl))) pss_nil)),
    (rds_if (rdt_not (rdt_B (rd_is (.own _) (rd_var (i := 0))))) rds_raise rds_next), ?_⟩
  rintro ss n P XP ⟨d, rfl, h⟩
  walk_at "dl"
  rcases h with ⟨ks, rs, rfl, p⟩ | ⟨h1, h2, p⟩
  · exact ⟨trivial, true, T.i_Table, p⟩
  · exact ⟨bare_of h1, false, kit_no T.no_Table h1 h2, p⟩

theorem sc_law_made : FnScope ["scope"] ["scope"] (defScope s_law_made) := ⟨rfl, rfl, rfl, by decide +kernel, rfl, by decide +kernel, by decide +kernel⟩
theorem ok_law_made (T : Txt K mg cs tk0) (D : DefAt K mg "_law_made" s_law_made ["scope"]) (c_Table : HasI P w K mg base 6 cs.Table "kinds" "rows" (spI K TT cs.Table (ds_Table_init cs))) : Has P w K mg base CX0 8 "_law_made" ["scope"] (sp0 K TT (ds_law_made cs)) := by
  obtain ⟨f, fd, F, hm, hk, hb⟩ := D
  obtain ⟨_, _, c_Table_ok, c_Table_mk, c_Table_b, c_Table_kb⟩ := c_Table
  refine ⟨f, fd, F.okD sc_law_made (len_law_made cs) (fun S cdv A outer s H E hr => ?_), hm, hk, hb⟩
  refine ⟨_, _, (pss_one (ps_ret (pe_make c_Table_mk c_Table_ok (hr.mono (by decide)) rfl T.g_Table c_Table_b .nil passL (pa_cons (pe_dget (hu_of hr) (pv 0) pe_str (fun _ _ => rfl)) (pa_cons (pe_dget (hu_of hr) (pv 0) pe_str (fun _ _ => rfl)) pa_nil))))),
    (rds_ret (rd_make (rda_cons (rd_dget (rd_var (i := 0)) rd_str) (rda_cons (rd_dget (rd_var (i := 0)) rd_str) rda_nil)))), ?_⟩
  rintro ss n P ⟨ks, rs, rfl, hk, hr', h1, h2, p⟩
  walk_at "dl"
  exact ⟨T.ic_Table, .tup ks, .tup rs, rfl, hk, hr', (fun z => by rw [h1] at z; cases z), (fun _ z => by rw [h2] at z; cases z), fun _ _ => p⟩

theorem sc_law_no_table : FnScope ["caught"] ["caught"] (defScope s_law_no_table) := ⟨rfl, rfl, rfl, by decide +kernel, rfl, by decide +kernel, by decide +kernel⟩
theorem ok_law_no_table (T : Txt K mg cs tk0) (D : DefAt K mg "_law_no_table" s_law_no_table ["caught"]) : Has P w K mg base CX0 1 "_law_no_table" ["caught"] (sp0 K TT (ds_law_no_table cs)) := by
  obtain ⟨f, fd, F, hm, hk, hb⟩ := D
  refine ⟨f, fd, F.okD sc_law_no_table (len_law_no_table cs) (fun S cdv A outer s H E hr => ?_), hm, hk, hb⟩
  refine ⟨_, _, (pss_one (ps_ret (pe_callB call_isD (by rfl) T.n_isinstance (by decide +kernel) (pa_cons (pv 0) (pa_cons (pe_glob (v := .ref cs.BadTable) rfl T.g_BadTable rfl) pa_nil))))),
    (rds_ret (rd_is (.own _) (rd_var (i := 0)))), ?_⟩
  rintro ss n P ⟨rfl, p⟩
  walk_at "dl"
  exact ⟨trivial, true, T.i_BadTable, p⟩


theorem sc_law_wide : FnScope ["state", "kinds_here", "many", "rows_here", "spot", "lap", "at", "size_here", "row"] ["state"] (defScope s_law_wide) := ⟨rfl, rfl, rfl, by decide +kernel, rfl, by decide +kernel, by decide +kernel⟩
theorem ok_law_wide (T : Txt K mg cs tk0) (D : DefAt K mg "_law_wide" s_law_wide ["state"]) (c_law_draw : Has P w K mg base CX0 1 "_law_draw" ["state", "size_here"] (sp0 K TT ds_law_draw)) (c_law_cell : Has P w K mg base CX0 2 "_law_cell" ["state", "size_here"] (sp0 K TT ds_law_cell)) (c_law_put : Has P w K mg base CX0 1 "_law_put" ["row", "spot", "item"] (sp0 K TT ds_law_put)) : Has P w K mg base CX0 3 "_law_wide" ["state"] (sp0 K TT ds_law_wide) := by
  obtain ⟨f, fd, F, hm, hk, hb⟩ := D
  obtain ⟨_, _, c_law_draw_ok, c_law_draw_m, c_law_draw_k, c_law_draw_b⟩ := c_law_draw
  obtain ⟨_, _, c_law_cell_ok, c_law_cell_m, c_law_cell_k, c_law_cell_b⟩ := c_law_cell
  obtain ⟨_, _, c_law_put_ok, c_law_put_m, c_law_put_k, c_law_put_b⟩ := c_law_put
  refine ⟨f, fd, F.okD sc_law_wide (len_law_wide) (fun S cdv A outer s H E hr => ?_), hm, hk, hb⟩
  refine ⟨_, _, (pss_cons (ps_set (i := 1) sc_law_wide.nd rfl (by first | exact Or.inl rfl | exact Or.inr rfl) (pe_callTy call_tupU (by rfl) T.n_tuple (by decide +kernel) (pa_cons (pe_lc (own := [("lap", 5)]) (g := gName 5) rfl sc_law_wide.nd (pi_range1 (by rfl) T.n_range (pa_cons (pe_op op_addU pe_int (pe_call c_law_draw_ok (hr.mono (by decide)) rfl c_law_draw_m c_law_draw_k c_law_draw_b .nil pass0 (pa_cons (pv 0) (pa_cons pe_int pa_nil)))) pa_nil)) (blkOk_by (N := ["state", "kinds_here", "many", "rows_here", "spot", "lap", "at", "size_here", "row"]) (own := [("lap", 5)]) (sc := defScope s_law_wide) (by decide +kernel)) (fun _ _ _ _ _ => (pg_name (i := 5) sc_law_wide.nd rfl (by first | exact Or.inl rfl | exact Or.inr rfl))) (fun _ _ _ _ _ => pts_nil) (fun _ _ _ _ _ => (pe_op op_addU pe_int (pe_call c_law_draw_ok (hr.mono (by decide)) rfl c_law_draw_m c_law_draw_k c_law_draw_b .nil pass0 (pa_cons (pv 0) (pa_cons pe_int pa_nil)))))) pa_nil)))
      (pss_cons (ps_set (i := 2) sc_law_wide.nd rfl (by first | exact Or.inl rfl | exact Or.inr rfl) (pe_op op_addU pe_int (pe_call c_law_draw_ok (hr.mono (by decide)) rfl c_law_draw_m c_law_draw_k c_law_draw_b .nil pass0 (pa_cons (pv 0) (pa_cons pe_int pa_nil)))))
      (pss_cons (ps_setLc (i := 3) (own := [("lap", 5)]) (g := gName 5) rfl sc_law_wide.nd rfl rfl (sw_true rfl rfl rfl (by decide +kernel)) (pi_range1 (by rfl) T.n_range (pa_cons (pv 2) pa_nil)) (blkOk_by (N := ["state", "kinds_here", "many", "rows_here", "spot", "lap", "at", "size_here", "row"]) (own := [("lap", 5)]) (sc := defScope s_law_wide) (by decide +kernel)) (fun _ _ _ _ _ => (pg_name (i := 5) sc_law_wide.nd rfl (by first | exact Or.inl rfl | exact Or.inr rfl))) (fun _ _ _ _ _ => pts_nil) (fun _ _ _ _ _ => (pe_callTy call_tupU (by rfl) T.n_tuple (by decide +kernel) (pa_cons (pe_lc (own := [("size_here", 7)]) (g := gName 7) rfl sc_law_wide.nd (pi_tup (pv 1)) (blkOk_by (N := ["state", "kinds_here", "many", "rows_here", "spot", "lap", "at", "size_here", "row"]) (own := [("size_here", 7)]) (by rfl)) (fun _ _ _ _ _ => (pg_name (i := 7) sc_law_wide.nd rfl (by first | exact Or.inl rfl | exact Or.inr rfl))) (fun _ _ _ _ _ => pts_nil) (fun _ _ _ _ _ => (pe_call c_law_cell_ok (hr.mono (by decide)) rfl c_law_cell_m c_law_cell_k c_law_cell_b .nil pass0 (pa_cons (pv 0) (pa_cons (pv 7) pa_nil))))) pa_nil))))
      (pss_cons (ps_asg (pe_ix ix_seq (pv 3) (pe_call c_law_draw_ok (hr.mono (by decide)) rfl c_law_draw_m c_law_draw_k c_law_draw_b .nil pass0 (pa_cons (pv 0) (pa_cons (pv 2) pa_nil))) (fun _ _ => rfl)) (pg_sub (pv 3) (pe_call c_law_draw_ok (hr.mono (by decide)) rfl c_law_draw_m c_law_draw_k c_law_draw_b .nil pass0 (pa_cons (pv 0) (pa_cons (pv 2) pa_nil))) set_list))
      (pss_cons (ps_for PassesOwn.never rfl (pi_range1 (by rfl) T.n_range (pa_cons (pe_callB call_lenU (by rfl) T.n_len (by decide +kernel) (pa_cons (pv 1) pa_nil)) pa_nil)) (pg_name (i := 4) sc_law_wide.nd rfl (by first | exact Or.inl rfl | exact Or.inr rfl)) (pss_one (ps_if (pt_cmpR (op_eqU hr.units) (pe_lc (own := [("row", 8)]) (g := gName 8) rfl sc_law_wide.nd (pi_list (pv 3)) (blkOk_by (N := ["state", "kinds_here", "many", "rows_here", "spot", "lap", "at", "size_here", "row"]) (own := [("row", 8)]) (sc := defScope s_law_wide) (by decide +kernel)) (fun _ _ _ _ _ => (pg_name (i := 8) sc_law_wide.nd rfl (by first | exact Or.inl rfl | exact Or.inr rfl))) (fun _ _ _ _ _ => (pts_one (pt_cmpR op_notN (pe_ix ix_seq (pv 8) (pv 4) (fun _ _ => rfl)) pe_non (nomark _)))) (fun _ _ _ _ _ => pe_int)) (pe_lst pa_nil) (nomark _)) (pss_cons (ps_set (i := 6) sc_law_wide.nd rfl (by first | exact Or.inl rfl | exact Or.inr rfl) (pe_call c_law_draw_ok (hr.mono (by decide)) rfl c_law_draw_m c_law_draw_k c_law_draw_b .nil pass0 (pa_cons (pv 0) (pa_cons (pv 2) pa_nil))))
      (pss_one (ps_asg (pe_call c_law_put_ok (hr.mono (by decide)) rfl c_law_put_m c_law_put_k c_law_put_b .nil pass0 (pa_cons (pe_ix ix_seq (pv 3) (pv 6) (fun _ _ => rfl)) (pa_cons (pv 4) (pa_cons (pe_call c_law_draw_ok (hr.mono (by decide)) rfl c_law_draw_m c_law_draw_k c_law_draw_b .nil pass0 (pa_cons (pv 0) (pa_cons (pe_ix ix_seq (pv 1) (pv 4) (fun _ _ => rfl)) pa_nil))) pa_nil)))) (pg_sub (pv 3) (pv 6) set_list)))) pss_nil)))
      (pss_one (ps_ret (pe_disp (pps_cons pe_str (pv 1) (pps_cons pe_str (pe_callTy call_tupU (by rfl) T.n_tuple (by decide +kernel) (pa_cons (pv 3) pa_nil)) pps_nil)) (by rfl) (by rfl) (fun z => by cases z) (by decide))))))))),
    (rds_seq (rds_set (rd_cb cal_tuple (rda_cons (rd_lc (rdj_of (rdi_range1 (rda_cons (rd_op o2_add rd_int (rd_call0 (E := E0) (rda_st (i := 0) (rda_cons rd_int rda_nil)))) rda_nil))) (rdg_name (vs := [5]) (by decide)) rdt_yes (rd_op o2_add rd_int (rd_call0 (E := E0) (rda_st (i := 0) (rda_cons rd_int rda_nil))))) rda_nil)))
      (rds_seq (rds_set (rd_op o2_add rd_int (rd_call0 (E := E0) (rda_st (i := 0) (rda_cons rd_int rda_nil)))))
      (rds_seq (rds_setO (rdn_lc (rdj_of (rdi_range1 (rda_cons (rd_var (i := 2)) rda_nil))) (rdg_name (vs := [5]) (by decide)) rdt_yes (rd_cb cal_tuple (rda_cons (rd_lc (rdj_of (rdi_tup (rd_var (i := 1)))) (rdg_name (vs := [7]) (by decide)) rdt_yes (rd_call0 (E := E0) (rda_st (i := 0) (rda_cons (rd_var (i := 7)) rda_nil)))) rda_nil))))
      (rds_seq (rds_putO (i := 3) (rd_ixO (i := 3) (rd_call0 (E := E0) (rda_st (i := 0) (rda_cons (rd_var (i := 2)) rda_nil)))) (rd_call0 (E := E0) (rda_st (i := 0) (rda_cons (rd_var (i := 2)) rda_nil))))
      (rds_seq (rds_for (rdi_range1 (rda_cons (rd_cb cal_len (rda_cons (rd_var (i := 1)) rda_nil)) rda_nil)) (rdg_name (vs := [4]) (by decide)) (rds_if (rdt_test (rd_op o2_eq (rd_lc (rdj_own (i := 3)) (rdg_name (vs := [8]) (by decide)) (rdt_test (rd_op o2_notN (rd_op o2_ix (rd_var (i := 8)) (rd_var (i := 4))) rd_non)) rd_int) (rd_lst rda_nil))) (rds_seq (rds_set (rd_call0 (E := E0) (rda_st (i := 0) (rda_cons (rd_var (i := 2)) rda_nil))))
      (rds_putO (i := 3) (rd_call0 (E := E0) (rda_cons (rd_ixO (i := 3) (rd_var (i := 6))) (rda_cons (rd_var (i := 4)) (rda_cons (rd_call0 (E := E0) (rda_st (i := 0) (rda_cons (rd_op o2_ix (rd_var (i := 1)) (rd_var (i := 4))) rda_nil))) rda_nil)))) (rd_var (i := 6)))) rds_next))
      (rds_ret (rd_disp (.cons rd_str (rd_var (i := 1)) (.cons rd_str (rd_tupO (i := 3)) .nil))))))))), ?_⟩
  rintro ss n P ⟨rfl, hn, p⟩
  walk_at "dl"
  have hn' : n + 1000 < 1099511627776 := hn
  refine ⟨_, rfl, by decide, by decide, lim (by omega), fun a n1 a0 a1 ha => ?_⟩
  obtain ⟨a, rfl⟩ := Int.eq_ofNat_of_zero_le a0
  have ea : (1 : Int) + (a : Int) = ((1 + a : Nat) : Int) := by omega
  walk_at "dl"
  rw [ea]
  refine ⟨by omega, by omega, by rw [range_len]; omega, ?_⟩
  refine compM_gen (c := 1) (N := n + 1000) (good := fun _ d => betw 1 6 d = true) _ _ _ (by rw [range_len]; omega) (fun x hx m k hm q => ⟨_, rfl, by decide, by decide, lim (by omega), fun r m' r0 r1 hr' => ?_⟩) fun ks n2 h2 hl hks => ?_
  · refine q _ _ hr' ?_
    simp [betw]
    omega
  rw [range_len] at h2 hl
  have hk : ∀ d ∈ ks, betw 1 6 d = true := fun d hd => by
    obtain ⟨j, hj, rfl⟩ := List.mem_iff_getElem.mp hd
    have hj' : j < (rangeD 0 ((1 + a : Nat) : Int).toNat).length := by rw [range_len]; omega
    exact hks j _ _ (List.getElem?_eq_getElem hj') (List.getElem?_eq_getElem hj)
  refine ⟨_, rfl, by decide, by decide, lim (by omega), fun b n3 b0 b1 hb => ?_⟩
  obtain ⟨b, rfl⟩ := Int.eq_ofNat_of_zero_le b0
  have eb : (1 : Int) + (b : Int) = ((1 + b : Nat) : Int) := by omega
  walk_at "dl"
  rw [eb]
  refine ⟨by omega, by omega, by rw [range_len]; omega, ?_⟩
  refine compM_gen (c := 16) (N := n + 1000) (good := fun _ d => rowB ks d = true) _ _ _ (by rw [range_len]; omega) (fun x hx m k hm q => ⟨by omega, ?_⟩) fun rs n4 h4 hl4 hrs => ?_
  · refine compM_gen (c := 2) (N := n + 1000) (good := fun x d => cellB x d = true) _ _ _ (by omega) (fun x hx m k hm q => ?_) fun cs n5 h5 hl5 hcs => q _ _ (by omega) (rowB_of hl5 hcs)
    have z := hk x hx
    cases x with
    | int i =>
      simp only [betw, Bool.and_eq_true, decide_eq_true_eq] at z
      exact ⟨i, rfl, by omega, by omega, lim (by omega), fun d n' h g => q _ _ h g⟩
    | _ => simp [betw] at z
  rw [range_len] at h4 hl4
  have hr : ∀ d ∈ rs, rowB ks d = true := fun d hd => by
    obtain ⟨j, hj, rfl⟩ := List.mem_iff_getElem.mp hd
    have hj' : j < (rangeD 0 ((1 + b : Nat) : Int).toNat).length := by rw [range_len]; omega
    exact hrs j _ _ (List.getElem?_eq_getElem hj') (List.getElem?_eq_getElem hj)
  refine ⟨_, rfl, by omega, by omega, lim (by omega), fun s n5 s0 s1 h5 => ?_⟩
  obtain ⟨s, rfl⟩ := Int.eq_ofNat_of_zero_le s0
  have hs : s < rs.length := by omega
  refine ⟨_, at_nat (List.getElem?_eq_getElem hs), _, rfl, by omega, by omega, lim (by omega), fun t n6 t0 t1 h6 => ?_⟩
  obtain ⟨t, rfl⟩ := Int.eq_ofNat_of_zero_le t0
  have ht : t < rs.length := by omega
  refine ⟨t, ix_nat ht, by omega, by omega, fun i ρ m => m ≤ n6 + 2 * i ∧ ∃ rs2 u1 u2 u3 u4 u5, ρ = [.st, .d (.tup ks), .d (.int ((1 + b : Nat) : Int)), .ol rs2, u1, u2, u3, u4, u5] ∧ rs2.length = 1 + b ∧ (∀ r ∈ rs2, rowB ks r = true) ∧ ∀ j < i, colU rs2 j = false, ⟨by omega, _, _, _, _, _, _, rfl, by simp [hl4], ?_, fun j hj => by omega⟩, ?_, ?_⟩
  · intro r hm
    rcases List.mem_or_eq_of_mem_set hm with h | rfl
    · exact hr r h
    · exact hr _ (List.getElem_mem hs)
  · rintro i x ρ m hx ⟨hm, rs2, u1, u2, u3, u4, u5, rfl, hl2, hr2, hc⟩
    obtain ⟨hi, rfl⟩ := range_get hx
    walk_at "dl"
    refine ⟨by omega, compM_filter (f := fun r => if !DL.isNon (atN r i) then some (.int 1) else none) (fun r hm n3 k2 q2 => ?_) (eq_ones ?_)⟩
    · obtain ⟨cs, rfl, hcl, _⟩ := rowB_inv (hr2 r hm)
      have e : cs[i]? = some cs[i] := List.getElem?_eq_getElem (by omega)
      refine ⟨_, at_nat e, ?_⟩
      have z : atN (.tup cs) i = cs[i] := by
        show cs.getD i .non = cs[i]
        rw [List.getD_eq_getElem?_getD, e]
        rfl
      rw [z] at q2
      cases hb2 : DL.isNon cs[i] <;> simp only [hb2] at q2 ⊢ <;> simpa using q2
    · have e : (rs2.all fun r => !!DL.isNon (atN r i)) = colU rs2 i := by simp [colU]
      rw [e]
      cases hcu : colU rs2 i with
      | false =>
        refine ⟨by omega, rs2, _, _, _, _, _, rfl, hl2, hr2, fun j hj => ?_⟩
        by_cases hji : j = i
        · rw [hji]
          exact hcu
        · exact hc j (by omega)
      | true =>
        refine ⟨_, rfl, by omega, by omega, lim (by omega), fun v m1 v0 v1 hm1 => ?_⟩
        obtain ⟨v, rfl⟩ := Int.eq_ofNat_of_zero_le v0
        have hv : v < rs2.length := by omega
        have hrv := hr2 _ (List.getElem_mem hv)
        obtain ⟨cs, ecs, hcl, hcc⟩ := rowB_inv hrv
        have hki := hk _ (List.getElem_mem hi)
        cases hkk : ks[i] with
        | int kk =>
          rw [hkk] at hki
          have eki : ks[i]? = some (.int kk) := by rw [List.getElem?_eq_getElem hi, hkk]
          simp only [betw, Bool.and_eq_true, decide_eq_true_eq] at hki
          refine ⟨_, at_nat (List.getElem?_eq_getElem hv), .int kk, at_nat eki, kk, rfl, by omega, by omega, lim (by omega), fun w' m2 w0 w1 hm2 => ?_⟩
          refine ⟨cs, i, .int w', by rw [ecs], by omega, by omega, v, ix_nat hv, by omega, _, _, _, _, _, _, rfl, by simp [hl2], ?_, ?_⟩
          · rw [put_set (by omega)]
            intro r hm'
            rcases List.mem_or_eq_of_mem_set hm' with h | rfl
            · exact hr2 r h
            · rw [ecs] at hrv
              refine rowB_set hrv eki ?_
              simp [cellB]
              omega
          · rw [put_set (by omega)]
            intro j hj
            by_cases hji : j = i
            · subst hji
              unfold colU
              rw [List.all_eq_false]
              exact ⟨_, mem_set' hv, by rw [atN_self (by omega)]; simp [DL.isNon]⟩
            · exact col_set (hc j (by omega)) hv (by rw [atN_set (fun z => hji z.symm), ecs])
        | _ => rw [hkk] at hki; simp [betw] at hki
  · rintro ρ m ⟨hm, rs2, u1, u2, u3, u4, u5, rfl, hl2, hr2, hc⟩
    rw [range_len] at hm hc
    walk_at "dl"
    refine ⟨by decide, p _ _ _ (by omega) ?_ ?_ ?_ ?_⟩
    · exact nxs_of fun d hd => by
        have z := hk d hd
        cases d <;> first | rfl | (simp [betw] at z)
    · exact nxs_of fun d hd => row_nx (hr2 d hd)
    · simp only [kindsB, Bool.and_eq_true, decide_eq_true_eq, List.all_eq_true]
      exact ⟨⟨by omega, by omega⟩, hk⟩
    · simp only [rowsB, Bool.and_eq_true, decide_eq_true_eq, List.all_eq_true]
      exact ⟨⟨⟨by omega, by omega⟩, hr2⟩, by rw [firstU_none hc]; rfl⟩


theorem sc_law_begun : FnScope ["script", "cells_here", "large", "cell"] ["script"] (defScope s_law_begun) := ⟨rfl, rfl, rfl, by decide +kernel, rfl, by decide +kernel, by decide +kernel⟩
theorem ok_law_begun (T : Txt K mg cs tk0) (D : DefAt K mg "_law_begun" s_law_begun ["script"]) : Has P w K mg base CX0 1 "_law_begun" ["script"] (spBegun K) := by
  obtain ⟨f, fd, F, hm, hk, hb⟩ := D
  refine ⟨f, fd, F.ok sc_law_begun (fun vs H Q E h => by obtain ⟨a, ns, rfl, _⟩ := h; rfl) (fun cdv A outer s H vs Q E hr h => ?_), hm, hk, hb⟩
  obtain ⟨a, ns, rfl, hS, hl, q⟩ := h
  refine ⟨_, (pss_cons (ps_setLc (i := 1) (own := [("cell", 3)]) (g := gName 3) rfl sc_law_begun.nd rfl rfl (sw_true rfl rfl rfl (by decide +kernel)) (pi_list (pv 0)) (blkOk_by (N := ["script", "cells_here", "large", "cell"]) (own := [("cell", 3)]) (sc := defScope s_law_begun) (by decide +kernel)) (fun _ _ _ _ _ => (pg_name (i := 3) sc_law_begun.nd rfl (by first | exact Or.inl rfl | exact Or.inr rfl))) (fun _ _ _ _ _ => pts_nil) (fun _ _ _ _ _ => (pe_callB call_rAbs (by rfl) T.n_abs (by decide +kernel) (pa_cons (pv 3) pa_nil))))
      (pss_cons (ps_setLc (i := 2) (own := [("cell", 3)]) (g := gName 3) rfl sc_law_begun.nd rfl rfl (sw_true rfl rfl rfl (by decide +kernel)) (pi_list (pv 1)) (blkOk_by (N := ["script", "cells_here", "large", "cell"]) (own := [("cell", 3)]) (sc := defScope s_law_begun) (by decide +kernel)) (fun _ _ _ _ _ => (pg_name (i := 3) sc_law_begun.nd rfl (by first | exact Or.inl rfl | exact Or.inr rfl))) (fun _ _ _ _ _ => (pts_one (pt_cmpR op_ge (pv 3) (pe_op op_pow pe_int pe_int) (nomark _)))) (fun _ _ _ _ _ => (pe_op op_sub (pv 3) (pe_op op_pow pe_int pe_int))))
      (pss_one (ps_ret (pe_disp (pps_cons pe_str (pv 2) (pps_cons pe_str (pv 1) (pps_cons pe_str pe_int (pps_cons pe_str pe_int pps_nil)))) (by rfl) (by rfl) (fun z => by cases z) (by decide)))))), ?_⟩
  refine ⟨.ref a, rfl, a, rfl, ⟨_, hS⟩, fun c hc => lc_list (xs := ns.map V.int) (fun i Hx => Hx = upd H c (.lst (((ns.take i).map absI).map V.int))) (by simp) ?_ ?_ ?_⟩
  · rintro i Hx hi rfl
    exact Evl.ex_l (Evl.Ex.new hc) hS
  · rintro i x Hx ex rfl
    rw [List.getElem?_map] at ex
    cases ez : ns[i]? with
    | none => rw [ez] at ex; cases ex
    | some z =>
      rw [ez] at ex
      cases ex
      refine ⟨rfl, ?_⟩
      unfold tYes
      dsimp only
      rw [if_pos rfl]
      refine ⟨_, rfl, z, rfl, _, upd_same, ?_, ?_⟩
      · have h1 : ((List.map V.int (List.map absI (List.take i ns))).length) ≤ 63 := by simp; omega
        exact Evl.sz_lt (by omega)
      · rw [upd_upd, List.take_add_one, ez]
        simp [absI]
  · rintro Hx rfl
    rw [List.length_map, List.take_length]
    generalize hcs : ns.map absI = cs
    have hz : cs.length ≤ 63 := by rw [← hcs, List.length_map]; exact hl
    have hp : ∀ x ∈ cs, 0 ≤ x := fun x hx => by
      rw [← hcs] at hx
      obtain ⟨z, _, rfl⟩ := List.mem_map.mp hx
      unfold absI
      split <;> omega
    have hbz : ∀ ys : List Int, (bigI ys).length ≤ ys.length := fun ys => by
      unfold bigI
      rw [List.length_map]
      exact List.length_filter_le _ _
    refine ⟨.ref c, rfl, c, rfl, ⟨_, SqL.of upd_same⟩, fun l hl' => lc_list (xs := cs.map V.int) (fun i Hx => Hx = upd (upd H c (.lst (cs.map V.int))) l (.lst ((bigI (cs.take i)).map V.int))) (by simp [bigI]) ?_ ?_ ?_⟩
    · rintro i Hx hi rfl
      exact Evl.ex_l (Evl.Ex.new hl') (SqL.of upd_same)
    · rintro i x Hx ex rfl
      rw [List.getElem?_map] at ex
      cases ez : cs[i]? with
      | none => rw [ez] at ex; cases ex
      | some z =>
        rw [ez] at ex
        cases ex
        have et : cs.take (i + 1) = cs.take i ++ [z] := by
          rw [List.take_add_one, ez]
          rfl
        refine ⟨rfl, ?_⟩
        refine ⟨_, rfl, 10, 18, rfl, rfl, ⟨by decide, by decide, by decide⟩, z, _, rfl, rfl, _, rfl, ?_⟩
        rw [et, bigI_snoc]
        have e18 : ((10 : Int) ^ Int.toNat 18) = 10 ^ 18 := rfl
        rw [e18]
        dsimp only
        by_cases h : (10 : Int) ^ 18 ≤ z
        · rw [if_pos (decide_eq_true h), if_pos h]
          refine ⟨_, rfl, 10, 18, rfl, rfl, ⟨by decide, by decide, by decide⟩, z, _, rfl, rfl, _, upd_same, ?_, ?_⟩
          · have h1 := hbz (cs.take i)
            have h2 : (cs.take i).length ≤ cs.length := by rw [List.length_take]; omega
            exact Evl.sz_lt (by rw [List.length_map]; omega)
          · rw [upd_upd, e18]
            simp
        · rw [if_neg (by simpa using h), if_neg h]
    · rintro Hx rfl
      rw [List.length_map, List.take_length]
      have hlc : c ≠ l := fun z => by rw [z, upd_same] at hl'; cases hl'
      have hl0 : H l = none := by rw [upd_ne hlc.symm] at hl'; exact hl'
      intro d hd
      have hdl : l ≠ d := fun z => by rw [z, upd_same] at hd; cases hd
      have hd1 : upd H c (.lst (cs.map V.int)) d = none := by rw [upd_ne hdl.symm] at hd; exact hd
      have hdc : c ≠ d := fun z => by rw [z, upd_same] at hd1; cases hd1
      have hd0 : H d = none := by rw [upd_ne hdc.symm] at hd1; exact hd1
      have em : mergeK [] (stBegun l c) = stBegun l c := by rfl
      have hb : ∀ x ∈ bigI cs, 0 ≤ x := fun x hx => by
        unfold bigI at hx
        obtain ⟨y, hy, rfl⟩ := List.mem_map.mp hx
        have h1 := (List.mem_filter.mp hy).2
        simp only [decide_eq_true_eq] at h1
        omega
      refine ⟨.ref l, rfl, .ref c, rfl, upd_same, stBegun l c, rfl, by simp [stBegun], ?_⟩
      rw [em, upd_upd]
      exact q c l d cs (bigI cs) _ hc hl0 hd0 hlc hdc hdl (by rw [upd_ne hdc, upd_ne hlc, upd_same]) (by rw [upd_ne hdl, upd_same]) upd_same (fun b h1 h2 h3 => by rw [upd_ne h3, upd_ne h2, upd_ne h1]) hp hb hz (Nat.le_trans (hbz cs) hz)

theorem sc_law_refused : FnScope ["state", "work", "args", "bads", "wrong", "told", "caught", "spot", "item", "check", "each"] ["state", "work", "args", "bads"] (defScope s_law_refused) := ⟨rfl, rfl, rfl, by decide +kernel, rfl, by decide +kernel, by decide +kernel⟩
theorem ok_law_refused {c9 : Addr} (T : Txt K mg cs tk0) (D : DefC K mg "_law_refused" s_law_refused ["state", "work", "args", "bads"] c9) (c_law_draw : Has P w K mg base CX0 1 "_law_draw" ["state", "size_here"] (sp0 K TT ds_law_draw)) (c_law_pick : Has P w K mg base CX0 2 "_law_pick" ["state", "several"] (sp0 K TT ds_law_pick)) (DC : DefAt K mg "_law_caught" s_law_caught ["work"]) (MA : MakesAt base mg TT "_law_refused.<locals>.<lambda>" c9) : HasG P w K mg base CX0 25 "_law_refused" ["state", "work", "args", "bads"] (sp0 K TT (ds_law_refused K cs (LamOkD P w K mg base TT 20) (HeldD P w K mg base TT 5))) := by
  obtain ⟨f, fd, F, hm, hk, hb⟩ := D
  obtain ⟨_, _, c_law_draw_ok, c_law_draw_m, c_law_draw_k, c_law_draw_b⟩ := c_law_draw
  obtain ⟨_, _, c_law_pick_ok, c_law_pick_m, c_law_pick_k, c_law_pick_b⟩ := c_law_pick
  refine ⟨f, fd, fnC_okD F sc_law_refused (len_law_refused _ _ _ _) (fun S A outer s H E hg hr => ?_), hm, hk, hb⟩
  refine ⟨_, _, (pss_cons (ps_setLc (i := 4) (own := [("each", 10)]) (g := gName 10) rfl sc_law_refused.nd rfl rfl (sw_true rfl rfl rfl (by decide +kernel)) (pi_list (pv 3)) (blkOk_by (N := ["state", "work", "args", "bads", "wrong", "told", "caught", "spot", "item", "check", "each"]) (own := [("each", 10)]) (sc := defScope s_law_refused) (by decide +kernel)) (fun _ _ _ _ _ => (pg_name (i := 10) sc_law_refused.nd rfl (by first | exact Or.inl rfl | exact Or.inr rfl))) (fun _ _ _ _ _ => (pts_one (pt_cmpR (op_eqU hr.units) (pe_call c_law_draw_ok (hr.mono (by decide)) rfl c_law_draw_m c_law_draw_k c_law_draw_b .nil pass0 (pa_cons (pv 0) (pa_cons pe_int pa_nil))) pe_int (nomark _)))) (fun _ _ _ _ _ => (pv 10)))
      (pss_cons (ps_set (i := 4) sc_law_refused.nd rfl (by first | exact Or.inl rfl | exact Or.inr rfl) (pe_ifExp (pt_cmpR (op_neNil hr.units) (pv 4) (pe_lst pa_nil) (nomark _)) (pv 4) (pe_lst (pa_cons (pe_call c_law_pick_ok (hr.mono (by decide)) rfl c_law_pick_m c_law_pick_k c_law_pick_b .nil pass0 (pa_cons (pv 0) (pa_cons (pv 3) pa_nil))) pa_nil))))
      (pss_cons (ps_set (i := 5) sc_law_refused.nd rfl (by first | exact Or.inl rfl | exact Or.inr rfl) (pe_callTy call_rListU (by rfl) T.n_list (by decide +kernel) (pa_cons (pv 2) pa_nil)))
      (pss_cons (ps_for PassesOwn.never rfl (pi_list (pv 4)) (pg_tup rfl (pgs_cons (pg_name (i := 7) sc_law_refused.nd rfl (by first | exact Or.inl rfl | exact Or.inr rfl)) (pgs_cons (pg_name (i := 8) sc_law_refused.nd rfl (by first | exact Or.inl rfl | exact Or.inr rfl)) (pgs_cons (pg_name (i := 9) sc_law_refused.nd rfl (by first | exact Or.inl rfl | exact Or.inr rfl)) pgs_nil)))) (pss_one (ps_asg (pv 8) (pg_sub (pv 5) (pv 7) set_list))))
      (pss_cons (ps_set (i := 6) sc_law_refused.nd rfl (by first | exact Or.inl rfl | exact Or.inr rfl) (lam_call (k := 22) DC sc_law_caught (fun g cdg => caught_gives rfl T.g_FoundError rfl rfl rfl) MA rfl (hr.mono (by decide)) (LamX.lamS_by (sc := defScope s_law_refused) (by decide +kernel)) rfl rfl (fun _ _ _ _ _ => rfl) (fun A9 outer9 s9 H9 E9 f9 c9 hr => (pe_callV (k := 20) (i := 1) (hr.mono (by decide)) rfl (by first | exact Or.inl rfl | exact Or.inr (Or.inl rfl) | exact Or.inr (Or.inr rfl)) (passes_call (takes_of rfl rfl rfl rfl) (fun _ _ _ _ h => h)) (pa_cons (pv 5) pa_nil)))))
      (pss_one (ps_ret (pe_and (pe_cmpR op_notN (pv 6) pe_non (nomark _)) (pe_one (pe_callE (k := 5) (pe_ix ix_seq (pe_ix ix_seq (pv 4) pe_int (fun _ _ => rfl)) pe_int (fun _ _ => rfl)) (hr.mono (by decide)) (pa_cons (pv 6) pa_nil))))))))))),
    (rds_seq (rds_set (rd_lc (rdj_of (rdi_list (rd_var (i := 3)))) (rdg_name (vs := [10]) (by decide)) (rdt_test (rd_op o2_eq (rd_call0 (E := E0) (rda_st (i := 0) (rda_cons rd_int rda_nil))) rd_int)) (rd_var (i := 10))))
      (rds_seq (rds_set (rd_if (rdt_test (rd_op o2_neNil (rd_var (i := 4)) (rd_lst rda_nil))) (rd_var (i := 4)) (rd_lst (rda_cons (rd_call0 (E := E0) (rda_st (i := 0) (rda_cons (rd_var (i := 3)) rda_nil))) rda_nil))))
      (rds_seq (rds_setO (rdn_list (rd_var (i := 2))))
      (rds_seq (rds_for (rdi_list (rd_var (i := 4))) (rdg_three (vs := [7, 8, 9]) (by decide) (by decide) (by decide)) (rds_putO (i := 5) (rd_var (i := 8)) (rd_var (i := 7))))
      (rds_seq (rds_frz (i := 5) (rds_set (rd_lam fun _ => (rd_callV (i := 1) (rd_var (i := 5))))))
      (rds_ret (rd_andV (rd_op o2_notN (rd_var (i := 6)) rd_non) (rd_callE (rd_op o2_ix (rd_op o2_ix (rd_var (i := 4)) rd_int) rd_int) (rda_cons (rd_var (i := 6)) rda_nil))))))))), ?_⟩
  rintro ss n P ⟨F, G, args, bads, rfl, hG, h1, h2, h3, hn, hb, p⟩
  walk_at "dl"
  have hn' : n + 200 < 1099511627776 := hn
  refine ⟨by omega, compM_sub (c := 1) (N := n + 100) bads n _ (by omega) (fun x hx m k hm q => ⟨3, rfl, by decide, by decide, lim (by omega), fun r m' r0 r1 h => ?_⟩) fun ds n1 hn1 hs => ?_⟩
  · simp only [eqP_int, id]
    by_cases hr0 : r = 0
    · rw [show decide (r = 0) = true from decide_eq_true hr0]
      exact q _ _ (by omega) (.inr rfl)
    · rw [show decide (r = 0) = false from decide_eq_false hr0]
      exact q _ _ (by omega) (.inl rfl)
  · cases ds with
    | nil =>
      simp only [List.isEmpty_nil, Bool.not_true]
      refine ⟨bads, .inr rfl, by omega, by omega, lim (by omega), fun x hx n2 h => ?_⟩
      have hs2 : [x].Sublist bads := List.singleton_sublist.mpr hx
      have hm2 : n2 ≤ n + 200 := by omega
      obtain ⟨i0, d0, f0, e0, hi0⟩ := hb x hx
      have hh : ([x] : List D).head? = some (.tup [.int (i0 : Int), d0, .fnv f0]) := by rw [e0]; rfl
      have hw : atD [x] 0 = some x := at_zero
      walk_at "dl"
      refine ⟨fun i ρ m => m = n2 ∧ ∃ s7 s8 s9 s10, ρ = [.st, .fv F, .d (.lst args), .d (.lst bads), .d (.lst ([x])), .ol (putsD args (([x]).take i)), .no, s7, s8, s9, s10], ⟨rfl, _, _, _, _, rfl⟩, ?_, ?_⟩
      · rintro i x1 ρ m hx1 ⟨rfl, s7, s8, s9, s10, rfl⟩
        obtain ⟨i1, d1, f1, rfl, hi1⟩ := hb _ (hs2.subset (List.mem_of_getElem? hx1))
        walk_at "dl"
        exact ⟨i1, ix_nat (by rw [puts_len]; exact hi1), .d (.int (i1 : Int)), .d d1, .d (.fnv f1), s10, by rw [puts_take hx1]; rfl⟩
      · rintro ρ m ⟨rfl, s7, s8, s9, s10, rfl⟩
        have ht : ([x]).take ([x]).length = [x] := List.take_length
        simp only [List.length_cons, List.length_nil] at ht
        try rw [ht]
        walk_at "dl"
        refine ⟨F, rfl, G, hG, ?_⟩
        try rw [ht]
        refine p _ _ i0 d0 f0 hs2 hh hm2 _ _ fun C ns ds n1 hc => ⟨hc.1, ?_⟩
        obtain ⟨_, DS, hD, hP⟩ := hc
        subst e0
        exact ⟨_, at_zero, .fnv f0, at_nat (j := 2) rfl, DS, hD, hP⟩
    | cons x xs =>
      have hs2 : (x :: xs).Sublist bads := hs
      have hm2 : n1 ≤ n + 200 := by omega
      obtain ⟨i0, d0, f0, e0, hi0⟩ := hb x (hs2.subset List.mem_cons_self)
      have hh : (x :: xs).head? = some (.tup [.int (i0 : Int), d0, .fnv f0]) := by rw [e0]; rfl
      have hw : atD (x :: xs) 0 = some x := at_zero
      walk_at "dl"
      refine ⟨fun i ρ m => m = n1 ∧ ∃ s7 s8 s9 s10, ρ = [.st, .fv F, .d (.lst args), .d (.lst bads), .d (.lst (x :: xs)), .ol (putsD args ((x :: xs).take i)), .no, s7, s8, s9, s10], ⟨rfl, _, _, _, _, rfl⟩, ?_, ?_⟩
      · rintro i x1 ρ m hx1 ⟨rfl, s7, s8, s9, s10, rfl⟩
        obtain ⟨i1, d1, f1, rfl, hi1⟩ := hb _ (hs2.subset (List.mem_of_getElem? hx1))
        walk_at "dl"
        exact ⟨i1, ix_nat (by rw [puts_len]; exact hi1), .d (.int (i1 : Int)), .d d1, .d (.fnv f1), s10, by rw [puts_take hx1]; rfl⟩
      · rintro ρ m ⟨rfl, s7, s8, s9, s10, rfl⟩
        have ht : (x :: xs).take (x :: xs).length = x :: xs := List.take_length
        simp only [List.length_cons, List.length_nil] at ht
        try rw [ht]
        walk_at "dl"
        refine ⟨F, rfl, G, hG, ?_⟩
        try rw [ht]
        refine p _ _ i0 d0 f0 hs2 hh hm2 _ _ fun C ns ds n1 hc => ⟨hc.1, ?_⟩
        obtain ⟨_, DS, hD, hP⟩ := hc
        subst e0
        exact ⟨_, at_zero, .fnv f0, at_nat (j := 2) rfl, DS, hD, hP⟩

theorem sc_law_no_matter : FnScope ["caught"] ["caught"] (defScope s_law_no_matter) := ⟨rfl, rfl, rfl, by decide +kernel, rfl, by decide +kernel, by decide +kernel⟩
theorem ok_law_no_matter (T : Txt K mg cs tk0) (D : DefAt K mg "_law_no_matter" s_law_no_matter ["caught"]) : Has P w K mg base CX0 1 "_law_no_matter" ["caught"] (sp0 K TT (ds_law_no_matter cs)) := by
  obtain ⟨f, fd, F, hm, hk, hb⟩ := D
  refine ⟨f, fd, F.okD sc_law_no_matter (len_law_no_matter cs) (fun S cdv A outer s H E hr => ?_), hm, hk, hb⟩
  refine ⟨_, _, (pss_one (ps_ret (pe_callB call_isD (by rfl) T.n_isinstance (by decide +kernel) (pa_cons (pv 0) (pa_cons (pe_glob (v := .ref cs.BadMatter) rfl T.g_BadMatter rfl) pa_nil))))),
    (rds_ret (rd_is (.own _) (rd_var (i := 0)))), ?_⟩
  rintro ss n P ⟨rfl, p⟩
  walk_at "dl"
  exact ⟨trivial, true, T.i_BadMatter, p⟩

theorem sc_law_no_custom : FnScope ["caught"] ["caught"] (defScope s_law_no_custom) := ⟨rfl, rfl, rfl, by decide +kernel, rfl, by decide +kernel, by decide +kernel⟩
theorem ok_law_no_custom (T : Txt K mg cs tk0) (D : DefAt K mg "_law_no_custom" s_law_no_custom ["caught"]) : Has P w K mg base CX0 1 "_law_no_custom" ["caught"] (sp0 K TT (ds_law_no_custom cs)) := by
  obtain ⟨f, fd, F, hm, hk, hb⟩ := D
  refine ⟨f, fd, F.okD sc_law_no_custom (len_law_no_custom cs) (fun S cdv A outer s H E hr => ?_), hm, hk, hb⟩
  refine ⟨_, _, (pss_one (ps_ret (pe_callB call_isD (by rfl) T.n_isinstance (by decide +kernel) (pa_cons (pv 0) (pa_cons (pe_glob (v := .ref cs.BadCustom) rfl T.g_BadCustom rfl) pa_nil))))),
    (rds_ret (rd_is (.own _) (rd_var (i := 0)))), ?_⟩
  rintro ss n P ⟨rfl, p⟩
  walk_at "dl"
  exact ⟨trivial, true, T.i_BadCustom, p⟩

theorem sc_law_bad_number : FnScope ["state", "size_here"] ["state", "size_here"] (defScope s_law_bad_number) := ⟨rfl, rfl, rfl, by decide +kernel, rfl, by decide +kernel, by decide +kernel⟩
theorem ok_law_bad_number (T : Txt K mg cs tk0) (D : DefAt K mg "_law_bad_number" s_law_bad_number ["state", "size_here"]) (c_law_pick : Has P w K mg base CX0 2 "_law_pick" ["state", "several"] (sp0 K TT ds_law_pick)) : Has P w K mg base CX0 3 "_law_bad_number" ["state", "size_here"] (sp0 K TT ds_law_bad_number) := by
  obtain ⟨f, fd, F, hm, hk, hb⟩ := D
  obtain ⟨_, _, c_law_pick_ok, c_law_pick_m, c_law_pick_k, c_law_pick_b⟩ := c_law_pick
  refine ⟨f, fd, F.okD sc_law_bad_number (len_law_bad_number) (fun S cdv A outer s H E hr => ?_), hm, hk, hb⟩
  refine ⟨_, _, (pss_one (ps_ret (pe_call c_law_pick_ok (hr.mono (by decide)) rfl c_law_pick_m c_law_pick_k c_law_pick_b .nil pass0 (pa_cons (pv 0) (pa_cons (pe_lst (pa_cons (pe_un un_neg pe_int) (pa_cons (pv 1) (pa_cons pe_non (pa_cons pe_bl (pa_cons pe_str (pa_cons (pe_tup (pa_cons pe_int pa_nil)) pa_nil))))))) pa_nil))))),
    (rds_ret (rd_call0 (E := E0) (rda_st (i := 0) (rda_cons (rd_lst (rda_cons (rd_un o1_neg rd_int) (rda_cons (rd_var (i := 1)) (rda_cons rd_non (rda_cons rd_bl (rda_cons rd_str (rda_cons (rd_tup (rda_cons rd_int rda_nil)) rda_nil))))))) rda_nil)))), ?_⟩
  rintro ss n P ⟨k, rfl, hn, p⟩
  walk_at "dl"
  refine ⟨_, .inr rfl, by simp, by simp, hn, fun x hx n' h => ?_⟩
  have z : nx x = true ∧ betw 0 (k - 1) x = false := by
    revert x
    simp [nx, nxs, betw]
    try omega
  exact p _ _ h z.1 z.2

theorem sc_check_matter : FnScope ["table", "matter"] ["table", "matter"] (defScope s_check_matter) := ⟨rfl, rfl, rfl, by decide +kernel, rfl, by decide +kernel, by decide +kernel⟩
theorem ok_check_matter (T : Txt K mg cs tk0) (D : DefAt K mg "check_matter" s_check_matter ["table", "matter"]) (c_is_between : Has P w K mg base CX0 2 "is_between" ["thing", "low", "high"] (sp0 K TT ds_is_between)) : Has P w K mg base (L2.CX P w) 3 "check_matter" ["table", "matter"] (spX K TT (ds_check_matter cs)) := by
  obtain ⟨f, fd, F, hm, hk, hb⟩ := D
  obtain ⟨_, _, c_is_between_ok, c_is_between_m, c_is_between_k, c_is_between_b⟩ := c_is_between
  refine ⟨f, fd, F.okXD sc_check_matter (len_check_matter cs) (fun S cdv A outer s H E hr => ?_), hm, hk, hb⟩
  have tk := takes_of (X := cxOf (L2.CX P w) P w K mg base ["table", "matter"] "check_matter" (defScope s_check_matter) f cdv A outer s H E) (E := E) rfl rfl rfl rfl
  refine ⟨_, _, (pss_one (ps_if (pt_not (pt_val (pe_call c_is_between_ok (hr.mono (by decide)) rfl c_is_between_m c_is_between_k c_is_between_b .nil pass0 (pa_cons (pv 1) (pa_cons pe_int (pa_cons (pe_op op_sub (pe_callB call_lenU (by rfl) T.n_len (by decide +kernel) (pa_cons (pe_fld (pv 0) rfl) pa_nil)) pe_int) pa_nil)))))) (pss_one (ps_raise (W := fun cls d _ H => E cls d H) rfl tk (pmk_own PySem.F.excBase_ValueError T.x_BadMatter T.g_BadMatter T.e_BadMatter (raises_own T.b_BadMatter T.t_BadMatter) rfl))) pss_nil)),
    (rds_if (rdt_not (rdt_B (rd_call0 (E := E0) (rda_cons (rd_var (i := 1)) (rda_cons rd_int (rda_cons (rd_op o2_sub (rd_cb cal_len (rda_cons (rd_fld (rd_var (i := 0))) rda_nil)) rd_int) rda_nil)))))) rds_raise rds_next), ?_⟩
  rintro ss n P XP ⟨ks, rs, v, rfl, hv, h1, h2⟩
  walk_at "dl"
  refine ⟨T.na_Table_kinds, _, fld_k, v, 0, _, rfl, bare_of hv, ?_⟩
  cases e : betw 0 ((ks.length : Int) - 1) v with
  | true => exact h1 e
  | false => exact h2 e

theorem sc_is_full : FnScope ["table", "row"] ["table"] (defScope s_is_full) := ⟨rfl, rfl, rfl, by decide +kernel, rfl, by decide +kernel, by decide +kernel⟩
theorem ok_is_full (T : Txt K mg cs tk0) (D : DefAt K mg "is_full" s_is_full ["table"]) (c_check_table : Has P w K mg base (L2.CX P w) 1 "check_table" ["table"] (spX K TT (ds_check_table cs))) : Has P w K mg base (L2.CX P w) 2 "is_full" ["table"] (spX K TT (ds_is_full cs)) := by
  obtain ⟨f, fd, F, hm, hk, hb⟩ := D
  obtain ⟨_, _, c_check_table_ok, c_check_table_m, c_check_table_k, c_check_table_b⟩ := c_check_table
  refine ⟨f, fd, F.okXD sc_is_full (len_is_full cs) (fun S cdv A outer s H E hr => ?_), hm, hk, hb⟩
  have tk := takes_of (X := cxOf (L2.CX P w) P w K mg base ["table", "row"] "is_full" (defScope s_is_full) f cdv A outer s H E) (E := E) rfl rfl rfl rfl
  refine ⟨_, _, (pss_cons (ps_expr (pe_call c_check_table_ok (hr.mono (by decide)) rfl c_check_table_m c_check_table_k c_check_table_b .nil (passes_call tk (fun _ _ _ _ h => h)) (pa_cons (pv 0) pa_nil)))
      (pss_one (ps_ret (pe_callB (cr_all rfl) (by rfl) T.n_all (by decide +kernel) (pa_cons (pe_lc (own := [("row", 1)]) (g := gName 1) rfl sc_is_full.nd (pi_tup (pe_fld (pv 0) rfl)) (blkOk_by (N := ["table", "row"]) (own := [("row", 1)]) (sc := defScope s_is_full) (by decide +kernel)) (fun _ _ _ _ _ => (pg_name (i := 1) sc_is_full.nd rfl (by first | exact Or.inl rfl | exact Or.inr rfl))) (fun _ _ _ _ _ => pts_nil) (fun _ _ _ _ _ => (pe_cmpR (SCo.op_notInT hr) pe_non (pv 1) (by with_unfolding_all rfl)))) pa_nil))))),
    (rds_seq (rds_drop (rd_callX (rda_cons (rd_var (i := 0)) rda_nil)))
      (rds_ret (rd_cb cal_all (rda_cons (rd_lc (rdj_of (rdi_tup (rd_fld (rd_var (i := 0))))) (rdg_name (vs := [1]) (by decide)) rdt_yes (rd_op o2_inT rd_non (rd_var (i := 1)))) rda_nil)))), ?_⟩
  rintro ss n P XP ⟨d, rfl, h⟩
  walk_at "dl"
  rcases h with ⟨kn, rss, rfl, t, p⟩ | ⟨xd, ni, p⟩
  · refine ⟨_, rfl, .inl ⟨_, _, rfl, ?_⟩⟩
    refine ⟨T.na_Table_rows, _, rfl, ?_⟩
    have rl := t.rl
    refine ⟨by rw [List.length_map]; omega, compM_map (f := fun x => .bl (fullD x)) (fun x hx n2 k q => ?_) (allD_map ?_)⟩
    · obtain ⟨r, hr, rfl⟩ := List.mem_map.mp hx
      refine ⟨.none, rfl, r.map oP, toP_row r, by decide, shaped_row r, ?_⟩
      rw [any_none, ← fullD_row]
      exact q
    · rw [fullD_rows]
      exact p
  · exact ⟨_, rfl, .inr ⟨xd, ni, p⟩⟩

theorem sc_sorts : FnScope ["table", "alike", "valley", "row", "valleys"] ["table"] (defScope s_sorts) := ⟨rfl, rfl, rfl, by decide +kernel, rfl, by decide +kernel, by decide +kernel⟩
theorem ok_sorts (T : Txt K mg cs tk0) (D : DefAt K mg "sorts" s_sorts ["table"]) (c_check_table : Has P w K mg base (L2.CX P w) 1 "check_table" ["table"] (spX K TT (ds_check_table cs))) : Has P w K mg base (L2.CX P w) 2 "sorts" ["table"] (spX K TT (ds_sorts cs)) := by
  obtain ⟨f, fd, F, hm, hk, hb⟩ := D
  obtain ⟨_, _, c_check_table_ok, c_check_table_m, c_check_table_k, c_check_table_b⟩ := c_check_table
  refine ⟨f, fd, F.okXD sc_sorts (len_sorts cs) (fun S cdv A outer s H E hr => ?_), hm, hk, hb⟩
  have tk := takes_of (X := cxOf (L2.CX P w) P w K mg base ["table", "alike", "valley", "row", "valleys"] "sorts" (defScope s_sorts) f cdv A outer s H E) (E := E) rfl rfl rfl rfl
  refine ⟨_, _, (pss_cons (ps_expr (pe_call c_check_table_ok (hr.mono (by decide)) rfl c_check_table_m c_check_table_k c_check_table_b .nil (passes_call tk (fun _ _ _ _ h => h)) (pa_cons (pv 0) pa_nil)))
      (pss_cons (ps_set (i := 1) sc_sorts.nd rfl (by first | exact Or.inl rfl | exact Or.inr rfl) SCo.pe_dnewN)
      (pss_cons (ps_for (passes_of rfl) rfl (RZ.pi_enumA (by rfl) T.n_enumerate (pa_cons (pe_fld (pv 0) rfl) pa_nil)) (pg_tup rfl (pgs_cons (pg_name (i := 2) sc_sorts.nd rfl (by first | exact Or.inl rfl | exact Or.inr rfl)) (pgs_cons (pg_name (i := 3) sc_sorts.nd rfl (by first | exact Or.inl rfl | exact Or.inr rfl)) pgs_nil))) (pss_one (ps_expr (pe_bm PySem.F.plainAttrs_list PySem.F.slot_list_append PySem.F.type_list_append mt_append (SCo.pe_dsetdN (SCo.hu8_of hr) (pv 1) (pv 3) (pe_lst pa_nil) ⟨rfl, rfl, rfl, rfl⟩) (pa_cons (pv 2) pa_nil)))))
      (pss_one (ps_ret (pe_callTy call_tupU (by rfl) T.n_tuple (by decide +kernel) (pa_cons (pe_lc (own := [("valleys", 4)]) (g := gName 4) rfl sc_sorts.nd (SCo.pi_valsN (pv 1)) (blkOk_by (N := ["table", "alike", "valley", "row", "valleys"]) (own := [("valleys", 4)]) (sc := defScope s_sorts) (by decide +kernel)) (fun _ _ _ _ _ => (pg_name (i := 4) sc_sorts.nd rfl (by first | exact Or.inl rfl | exact Or.inr rfl))) (fun _ _ _ _ _ => pts_nil) (fun _ _ _ _ _ => (pe_callTy call_tupU (by rfl) T.n_tuple (by decide +kernel) (pa_cons (pv 4) pa_nil)))) pa_nil))))))),
    (rds_seq (rds_drop (rd_callX (rda_cons (rd_var (i := 0)) rda_nil)))
      (rds_groups (i := 1) (jl := 4) (by decide) (by decide) (by decide) (by decide) (rdi_enum (rda_cons (rd_fld (rd_var (i := 0))) rda_nil)) (rdg_two (vs := [2, 3]) (by decide) (by decide)))), ?_⟩
  rintro ss n P XP ⟨d, rfl, h⟩
  walk_at "dl"
  rcases h with ⟨kn, rss, rfl, t, p⟩ | ⟨xd, ni, p⟩
  · refine ⟨_, rfl, .inl ⟨_, _, rfl, ?_⟩⟩
    have rl := t.rl
    refine ⟨rfl, by decide, by decide, by decide, by decide, T.na_Table_rows, _, rfl, rss, rfl, by omega, ?_⟩
    unfold sortsL at p
    rw [List.map_map] at p
    exact p
  · exact ⟨_, rfl, .inr ⟨xd, ni, p⟩⟩

theorem sc_law_sorts : FnScope ["rows_here", "found", "at", "row", "other", "each"] ["rows_here"] (defScope s_law_sorts) := ⟨rfl, rfl, rfl, by decide +kernel, rfl, by decide +kernel, by decide +kernel⟩
theorem ok_law_sorts (T : Txt K mg cs tk0) (D : DefAt K mg "_law_sorts" s_law_sorts ["rows_here"]) : Has P w K mg base CX0 1 "_law_sorts" ["rows_here"] (sp0 K TT ds_law_sorts) := by
  obtain ⟨f, fd, F, hm, hk, hb⟩ := D
  refine ⟨f, fd, F.okD sc_law_sorts (len_law_sorts) (fun S cdv A outer s H E hr => ?_), hm, hk, hb⟩
  refine ⟨_, _, (pss_cons (ps_set (i := 1) sc_law_sorts.nd rfl (by first | exact Or.inl rfl | exact Or.inr rfl) (pe_lst pa_nil))
      (pss_cons (ps_for PassesOwn.never rfl (RZ.pi_enumA (by rfl) T.n_enumerate (pa_cons (pv 0) pa_nil)) (pg_tup rfl (pgs_cons (pg_name (i := 2) sc_law_sorts.nd rfl (by first | exact Or.inl rfl | exact Or.inr rfl)) (pgs_cons (pg_name (i := 3) sc_law_sorts.nd rfl (by first | exact Or.inl rfl | exact Or.inr rfl)) pgs_nil))) (pss_one (ps_if (pt_cmpR (SCo.op_notInT hr) (pv 3) (pe_slice sl_U (pv 0) po_none (po_some (pv 2))) (by with_unfolding_all rfl)) (pss_one (ps_expr (pe_bm PySem.F.plainAttrs_list PySem.F.slot_list_append PySem.F.type_list_append mt_append (pv 1) (pa_cons (pe_callTy call_tupU (by rfl) T.n_tuple (by decide +kernel) (pa_cons (pe_lc (own := [("other", 4), ("each", 5)]) (g := gTup _ 2 (gCons (gName 4) (gCons (gName 5) gNil))) rfl sc_law_sorts.nd (RZ.pi_enumA (by rfl) T.n_enumerate (pa_cons (pv 0) pa_nil)) (blkOk_by (N := ["rows_here", "found", "at", "row", "other", "each"]) (own := [("other", 4), ("each", 5)]) (sc := defScope s_law_sorts) (by decide +kernel)) (fun _ _ _ _ _ => (pg_tup rfl (pgs_cons (pg_name (i := 4) sc_law_sorts.nd rfl (by first | exact Or.inl rfl | exact Or.inr rfl)) (pgs_cons (pg_name (i := 5) sc_law_sorts.nd rfl (by first | exact Or.inl rfl | exact Or.inr rfl)) pgs_nil)))) (fun _ _ _ _ _ => (pts_one (pt_cmpR (op_eqU hr.units) (pv 5) (pv 3) (nomark _)))) (fun _ _ _ _ _ => (pv 4))) pa_nil)) pa_nil)))) pss_nil)))
      (pss_one (ps_ret (pe_callTy call_tupU (by rfl) T.n_tuple (by decide +kernel) (pa_cons (pv 1) pa_nil)))))),
    (rds_seq (rds_setO rdn_nil)
      (rds_seq (rds_for (rdi_enum (rda_cons (rd_var (i := 0)) rda_nil)) (rdg_two (vs := [2, 3]) (by decide) (by decide)) (rds_if (rdt_test (rd_op o2_inT (rd_var (i := 3)) (rd_sl (rd_var (i := 0)) rdo_none (rdo_some (rd_var (i := 2)))))) (rds_appO (i := 1) (rd_cb cal_tuple (rda_cons (rd_lc (rdj_of (rdi_enum (rda_cons (rd_var (i := 0)) rda_nil))) (rdg_two (vs := [4, 5]) (by decide) (by decide)) (rdt_test (rd_op o2_eq (rd_var (i := 5)) (rd_var (i := 3)))) (rd_var (i := 4))) rda_nil))) rds_next))
      (rds_ret (rd_tupO (i := 1))))), ?_⟩
  rintro ss n P ⟨kn, rss, rfl, t, p⟩
  walk_at "dl"
  have rl := t.rl
  have el : (enumD 0 (rss.map rowD)).length = rss.length := by rw [enumD_len, List.length_map]
  refine ⟨fun i ρ n' => n' = n ∧ ∃ (u2 u3 u4 u5 : SV), ρ = [.d (.tup (rss.map rowD)), .ol (((lawS rss i).map (eqsN rss rss.length)).map tupI), u2, u3, u4, u5], ⟨rfl, _, _, _, _, rfl⟩, ?_, ?_⟩
  · rintro i x ρ n' hx ⟨hn', u2, u3, u4, u5, rfl⟩
    subst hn'
    have hi : i < rss.length := by rw [← el]; exact (List.getElem?_eq_some_iff.mp hx).1
    have ex : rss[i]? = some (rss.getD i []) := by rw [List.getD_eq_getElem?_getD, List.getElem?_eq_getElem hi]; rfl
    rw [enumD_get, List.getElem?_map, ex, Nat.zero_add] at hx
    obtain rfl := Option.some.inj hx
    have sl : (lawS rss i).length ≤ i := by
      have := List.length_filter_le (freshB rss) (List.range i)
      rw [List.length_range] at this
      exact this
    walk_at "dl"
    have ec : cutD (rss.map rowD) none (some (i : Int)) = (rss.take i).map rowD := by rw [cut_to, List.map_take]
    rw [ec]
    refine ⟨_, toP_row _, _, toP_rows _, shaped_row _, shaped_rows _, ?_⟩
    have ea : (!(((rss.take i).map fun r => PySem.PyData.tuple (r.map oP)).any fun z => z.eqv (.tuple ((rss.getD i []).map oP)))) = freshB rss i := by
      unfold freshB
      congr 1
      exact any_rows _ _
    rw [ea]
    have ls : lawS rss (i + 1) = lawS rss i ++ if freshB rss i = true then [i] else [] := by
      unfold lawS
      rw [List.range_succ, List.filter_append]
      congr 1
      cases h : freshB rss i <;> simp [h]
    cases hf : freshB rss i with
    | false =>
      rw [hf, if_neg (by decide), List.append_nil] at ls
      rw [ls]
      first | exact ⟨rfl, _, _, _, _, rfl⟩ | exact ⟨_, _, _, _, rfl⟩
    | true =>
      rw [hf, if_pos rfl] at ls
      show _ ∧ _
      refine ⟨by omega, compM_filter (f := eqF (rss.getD i [])) (fun y hy n2 k q => ?_) ?_⟩
      · obtain ⟨j, r, hr, rfl⟩ := enum_rows hy
        rw [eqF_at] at q
        refine eqP_row ?_
        by_cases e : r = rss.getD i []
        · rw [if_pos e] at q
          rw [decide_eq_true e]
          exact q
        · rw [if_neg e] at q
          rw [decide_eq_false e]
          exact q
      · rw [eqF_map]
        rw [ls, List.map_append, List.map_append]
        first | exact ⟨by rw [List.length_map, List.length_map]; omega, rfl, _, _, _, _, rfl⟩ | exact ⟨by rw [List.length_map, List.length_map]; omega, _, _, _, _, rfl⟩
  · rintro ρ n' ⟨hn', u2, u3, u4, u5, rfl⟩
    subst hn'
    walk_at "dl"
    rw [el]
    rw [sorts_eq] at p
    exact p

theorem sc_law_column : FnScope ["scope", "spot", "row"] ["scope", "spot"] (defScope s_law_column) := ⟨rfl, rfl, rfl, by decide +kernel, rfl, by decide +kernel, by decide +kernel⟩
theorem ok_law_column (T : Txt K mg cs tk0) (D : DefAt K mg "_law_column" s_law_column ["scope", "spot"]) : Has P w K mg base CX0 1 "_law_column" ["scope", "spot"] (sp0 K TT ds_law_column) := by
  obtain ⟨f, fd, F, hm, hk, hb⟩ := D
  refine ⟨f, fd, F.okD sc_law_column (len_law_column) (fun S cdv A outer s H E hr => ?_), hm, hk, hb⟩
  refine ⟨_, _, (pss_one (ps_ret (pe_callTy call_tupU (by rfl) T.n_tuple (by decide +kernel) (pa_cons (pe_lc (own := [("row", 2)]) (g := gName 2) rfl sc_law_column.nd (pi_tup (pe_dget (hu_of hr) (pv 0) pe_str (fun _ _ => rfl))) (blkOk_by (N := ["scope", "spot", "row"]) (own := [("row", 2)]) (sc := defScope s_law_column) (by decide +kernel)) (fun _ _ _ _ _ => (pg_name (i := 2) sc_law_column.nd rfl (by first | exact Or.inl rfl | exact Or.inr rfl))) (fun _ _ _ _ _ => pts_nil) (fun _ _ _ _ _ => (pe_ix ix_seq (pv 2) (pv 1) (fun _ _ => rfl)))) pa_nil)))),
    (rds_ret (rd_cb cal_tuple (rda_cons (rd_lc (rdj_of (rdi_tup (rd_dget (rd_var (i := 0)) rd_str))) (rdg_name (vs := [2]) (by decide)) rdt_yes (rd_op o2_ix (rd_var (i := 2)) (rd_var (i := 1)))) rda_nil))), ?_⟩
  rintro ss n P ⟨kn, rss, m, rfl, t, hm, p⟩
  walk_at "dl"
  have rl := t.rl
  show _ ∧ _
  refine ⟨by rw [List.length_map]; omega, compM_map (f := fun x => atN x m) (fun x hx n2 k q => ?_) ?_⟩
  · obtain ⟨r, hr, rfl⟩ := List.mem_map.mp hx
    rw [atN_row (by rw [t.rw r hr]; exact hm)] at q
    exact ⟨_, at_nat (j := m) (row_at (by rw [t.rw r hr]; exact hm)), q⟩
  · rw [col_rows t hm]
    exact p

theorem sc_law_used : FnScope ["scope", "spot", "item"] ["scope", "spot"] (defScope s_law_used) := ⟨rfl, rfl, rfl, by decide +kernel, rfl, by decide +kernel, by decide +kernel⟩
theorem ok_law_used (T : Txt K mg cs tk0) (D : DefAt K mg "_law_used" s_law_used ["scope", "spot"]) (c_law_column : Has P w K mg base CX0 1 "_law_column" ["scope", "spot"] (sp0 K TT ds_law_column)) : Has P w K mg base CX0 2 "_law_used" ["scope", "spot"] (sp0 K TT ds_law_used) := by
  obtain ⟨f, fd, F, hm, hk, hb⟩ := D
  obtain ⟨_, _, c_law_column_ok, c_law_column_m, c_law_column_k, c_law_column_b⟩ := c_law_column
  refine ⟨f, fd, F.okD sc_law_used (len_law_used) (fun S cdv A outer s H E hr => ?_), hm, hk, hb⟩
  refine ⟨_, _, (pss_one (ps_ret (pe_callB (cr_sortedSet rfl) (by rfl) T.n_sorted (by decide +kernel) (pa_cons (pe_callTy (SCo.cr_setL rfl) (by rfl) T.n_set (by decide +kernel) (pa_cons (pe_lc (own := [("item", 2)]) (g := gName 2) rfl sc_law_used.nd (pi_tup (pe_call c_law_column_ok (hr.mono (by decide)) rfl c_law_column_m c_law_column_k c_law_column_b .nil pass0 (pa_cons (pv 0) (pa_cons (pv 1) pa_nil)))) (blkOk_by (N := ["scope", "spot", "item"]) (own := [("item", 2)]) (sc := defScope s_law_used) (by decide +kernel)) (fun _ _ _ _ _ => (pg_name (i := 2) sc_law_used.nd rfl (by first | exact Or.inl rfl | exact Or.inr rfl))) (fun _ _ _ _ _ => (pts_one (pt_cmpR op_notN (pv 2) pe_non (nomark _)))) (fun _ _ _ _ _ => (pv 2))) pa_nil)) pa_nil)))),
    (rds_ret (rd_sortSet (rd_lc (rdj_of (rdi_tup (rd_call0 (E := E0) (rda_cons (rd_var (i := 0)) (rda_cons (rd_var (i := 1)) rda_nil))))) (rdg_name (vs := [2]) (by decide)) (rdt_test (rd_op o2_notN (rd_var (i := 2)) rd_non)) (rd_var (i := 2))))), ?_⟩
  rintro ss n P ⟨kn, rss, m, rfl, t, hm, p⟩
  walk_at "dl"
  refine ⟨kn, rss, m, rfl, t, hm, ?_⟩
  have rl := t.rl
  have cl : (colO rss m).length = rss.length := List.length_map ..
  show _ ∧ _
  refine ⟨by rw [List.length_map]; omega, compM_filter (f := someF) (fun x hx n2 k q => ?_) ?_⟩
  · obtain ⟨c, hc, rfl⟩ := List.mem_map.mp hx
    cases c with
    | none => exact q
    | some i => exact q
  · rw [someF_map]
    refine ⟨_, rfl, ?_, fun us h1 h2 => p us ⟨h1, fun c => (h2 c).trans someL_mem⟩⟩
    have := someL_len (colO rss m)
    omega

theorem sc_used : FnScope ["table", "matter", "row"] ["table", "matter"] (defScope s_used) := ⟨rfl, rfl, rfl, by decide +kernel, rfl, by decide +kernel, by decide +kernel⟩
theorem ok_used (T : Txt K mg cs tk0) (D : DefAt K mg "used" s_used ["table", "matter"]) (c_check_table : Has P w K mg base (L2.CX P w) 1 "check_table" ["table"] (spX K TT (ds_check_table cs))) (c_check_matter : Has P w K mg base (L2.CX P w) 3 "check_matter" ["table", "matter"] (spX K TT (ds_check_matter cs))) : HasF P w K mg base (L2.CX P w) 4 "used" s_used ["table", "matter"] (spX K TT (ds_used cs)) := by
  obtain ⟨f, fd, F, hm, hk, hb⟩ := D
  obtain ⟨_, _, c_check_table_ok, c_check_table_m, c_check_table_k, c_check_table_b⟩ := c_check_table
  obtain ⟨_, _, c_check_matter_ok, c_check_matter_m, c_check_matter_k, c_check_matter_b⟩ := c_check_matter
  refine ⟨f, fd, F.okXD sc_used (len_used cs) (fun S cdv A outer s H E hr => ?_), hm, hk, hb, F⟩
  have tk := takes_of (X := cxOf (L2.CX P w) P w K mg base ["table", "matter", "row"] "used" (defScope s_used) f cdv A outer s H E) (E := E) rfl rfl rfl rfl
  refine ⟨_, _, (pss_cons (ps_expr (pe_call c_check_table_ok (hr.mono (by decide)) rfl c_check_table_m c_check_table_k c_check_table_b .nil (passes_call tk (fun _ _ _ _ h => h)) (pa_cons (pv 0) pa_nil)))
      (pss_cons (ps_expr (pe_call c_check_matter_ok (hr.mono (by decide)) rfl c_check_matter_m c_check_matter_k c_check_matter_b .nil (passes_call tk (fun _ _ _ _ h => h)) (pa_cons (pv 0) (pa_cons (pv 1) pa_nil))))
      (pss_one (ps_ret (pe_callTy call_tupU (by rfl) T.n_tuple (by decide +kernel) (pa_cons (pe_callB (cr_sortedSet rfl) (by rfl) T.n_sorted (by decide +kernel) (pa_cons (SCo.pe_sc (SCo.intKd _ _) (own := [("row", 2)]) (g := gName 2) rfl sc_used.nd (pi_tup (pe_fld (pv 0) rfl)) (blkOk_by (N := ["table", "matter", "row"]) (own := [("row", 2)]) (sc := defScope s_used) (by decide +kernel)) (fun _ _ _ _ _ => (pg_name (i := 2) sc_used.nd rfl (by first | exact Or.inl rfl | exact Or.inr rfl))) (fun _ _ _ _ _ => (pts_one (pt_cmpR op_notN (pe_ix ix_seq (pv 2) (pv 1) (fun _ _ => rfl)) pe_non (nomark _)))) (fun _ _ _ _ _ => (pe_ix ix_seq (pv 2) (pv 1) (fun _ _ => rfl)))) pa_nil)) pa_nil)))))),
    (rds_seq (rds_drop (rd_callX (rda_cons (rd_var (i := 0)) rda_nil)))
      (rds_seq (rds_drop (rd_callX (rda_cons (rd_var (i := 0)) (rda_cons (rd_var (i := 1)) rda_nil))))
      (rds_ret (rd_cb cal_tuple (rda_cons (rd_sortSc rfl (rdj_of (rdi_tup (rd_fld (rd_var (i := 0))))) (rdg_name (vs := [2]) (by decide)) (rdt_test (rd_op o2_notN (rd_op o2_ix (rd_var (i := 2)) (rd_var (i := 1))) rd_non)) (rd_op o2_ix (rd_var (i := 2)) (rd_var (i := 1)))) rda_nil))))), ?_⟩
  rintro ss n P XP ⟨d, v, rfl, xv, h⟩
  walk_at "dl"
  rcases h with ⟨xd, ni, p⟩ | ⟨kn, rss, rfl, t, p1, p2⟩
  · exact ⟨_, rfl, .inr ⟨xd, ni, p⟩⟩
  refine ⟨_, rfl, .inl ⟨_, _, rfl, ?_⟩⟩
  refine ⟨_, _, v, rfl, xv, fun hb => ?_, fun hb => p1 (by rw [List.length_map] at hb; exact hb)⟩
  rw [List.length_map] at hb
  obtain ⟨m, rfl, hm⟩ := betw_nat hb
  have rl := t.rl
  refine ⟨T.na_Table_rows, _, rfl, ?_⟩
  show _ ∧ _
  refine ⟨by rw [List.length_map]; omega, compM_filter (f := fun x => someF (atN x m)) (fun x hx n2 k q => ?_) ?_⟩
  · obtain ⟨r, hr, rfl⟩ := List.mem_map.mp hx
    have hl : m < r.length := by rw [t.rw r hr]; exact hm
    rw [atN_row hl] at q
    refine ⟨_, at_nat (j := m) (row_at hl), ?_⟩
    cases e : r.getD m none with
    | none => rw [e] at q; exact q
    | some c =>
      rw [e] at q
      refine ⟨_, at_nat (j := m) (row_at hl), c, by rw [e]; rfl, ?_⟩
      rw [e]
      exact q
  · have e : (rss.map rowD).filterMap (fun x => someF (atN x m)) = (someL (colO rss m)).map D.int := by
      rw [← someF_map, ← col_rows t hm]
      simp only [List.filterMap_map]
      rfl
    rw [e]
    exact ⟨_, rfl, fun us h1 h2 => p2 m rfl hm us ⟨h1, fun c => (h2 c).trans someL_mem⟩⟩

theorem sc_is_used : FnScope ["table", "matter", "thing"] ["table", "matter", "thing"] (defScope s_is_used) := ⟨rfl, rfl, rfl, by decide +kernel, rfl, by decide +kernel, by decide +kernel⟩
theorem ok_is_used (T : Txt K mg cs tk0) (D : DefAt K mg "is_used" s_is_used ["table", "matter", "thing"]) (c_is_number : Has P w K mg base CX0 1 "is_number" ["thing"] (sp0 K TT ds_is_number)) (c_used : HasF P w K mg base (L2.CX P w) 4 "used" s_used ["table", "matter"] (spX K TT (ds_used cs))) : Has P w K mg base (L2.CX P w) 5 "is_used" ["table", "matter", "thing"] (spX K TT (ds_is_used cs)) := by
  obtain ⟨f, fd, F, hm, hk, hb⟩ := D
  obtain ⟨_, _, c_is_number_ok, c_is_number_m, c_is_number_k, c_is_number_b⟩ := c_is_number
  obtain ⟨_, _, c_used_ok, c_used_m, c_used_k, c_used_b, c_used_F⟩ := c_used
  refine ⟨f, fd, F.okXD sc_is_used (len_is_used cs) (fun S cdv A outer s H E hr => ?_), hm, hk, hb⟩
  have tk := takes_of (X := cxOf (L2.CX P w) P w K mg base ["table", "matter", "thing"] "is_used" (defScope s_is_used) f cdv A outer s H E) (E := E) rfl rfl rfl rfl
  refine ⟨_, _, (pss_one (ps_ret (pe_and (pe_call c_is_number_ok (hr.mono (by decide)) rfl c_is_number_m c_is_number_k c_is_number_b .nil pass0 (pa_cons (pv 2) pa_nil)) (pe_one (pe_cmpR op_in_seq (pv 2) (pe_call c_used_ok (hr.mono (by decide)) rfl c_used_m c_used_k c_used_b .nil (passes_call tk (fun _ _ _ _ h => h)) (pa_cons (pv 0) (pa_cons (pv 1) pa_nil))) (by with_unfolding_all rfl)))))),
    (rds_ret (rd_andV (rd_call0 (E := E0) (rda_cons (rd_var (i := 2)) rda_nil)) (rd_op o2_in (rd_var (i := 2)) (rd_callX (rda_cons (rd_var (i := 0)) (rda_cons (rd_var (i := 1)) rda_nil)))))), ?_⟩
  rintro ss n P XP ⟨kn, rss, m, v, rfl, xv, t, hm, p⟩
  walk_at "dl"
  refine ⟨v, rfl, bare_of xv, ?_⟩
  obtain ⟨us, hu⟩ := used_ex rss m
  have pu := p us hu
  cases v with
  | int i =>
    refine ⟨_, _, rfl, rfl, .inr ⟨kn, rss, rfl, t, fun hb => ?_, fun m2 em hm2 us2 hu2 => ?_⟩⟩
    · simp only [betw, Bool.and_eq_false_iff, decide_eq_false_iff_not] at hb
      omega
    · obtain rfl : m = m2 := by have := D.int.inj em; omega
      have pu := p us2 hu2
      refine ⟨i, us2, rfl, rfl, ?_⟩
      rw [show (us2.any fun z => z == i) = inU us2 (.int i) from any_in0]
      exact pu
  | _ => exact pu

theorem sc_having : FnScope ["table", "matter", "custom", "valley", "row"] ["table", "matter", "custom"] (defScope s_having) := ⟨rfl, rfl, rfl, by decide +kernel, rfl, by decide +kernel, by decide +kernel⟩
theorem ok_having (T : Txt K mg cs tk0) (D : DefAt K mg "having" s_having ["table", "matter", "custom"]) (c_check_table : Has P w K mg base (L2.CX P w) 1 "check_table" ["table"] (spX K TT (ds_check_table cs))) (c_check_matter : Has P w K mg base (L2.CX P w) 3 "check_matter" ["table", "matter"] (spX K TT (ds_check_matter cs))) (c_is_used : Has P w K mg base (L2.CX P w) 5 "is_used" ["table", "matter", "thing"] (spX K TT (ds_is_used cs))) : Has P w K mg base (L2.CX P w) 6 "having" ["table", "matter", "custom"] (spX K TT (ds_having cs)) := by
  obtain ⟨f, fd, F, hm, hk, hb⟩ := D
  obtain ⟨_, _, c_check_table_ok, c_check_table_m, c_check_table_k, c_check_table_b⟩ := c_check_table
  obtain ⟨_, _, c_check_matter_ok, c_check_matter_m, c_check_matter_k, c_check_matter_b⟩ := c_check_matter
  obtain ⟨_, _, c_is_used_ok, c_is_used_m, c_is_used_k, c_is_used_b⟩ := c_is_used
  refine ⟨f, fd, F.okXD sc_having (len_having cs) (fun S cdv A outer s H E hr => ?_), hm, hk, hb⟩
  have tk := takes_of (X := cxOf (L2.CX P w) P w K mg base ["table", "matter", "custom", "valley", "row"] "having" (defScope s_having) f cdv A outer s H E) (E := E) rfl rfl rfl rfl
  refine ⟨_, _, (pss_cons (ps_expr (pe_call c_check_table_ok (hr.mono (by decide)) rfl c_check_table_m c_check_table_k c_check_table_b .nil (passes_call tk (fun _ _ _ _ h => h)) (pa_cons (pv 0) pa_nil)))
      (pss_cons (ps_expr (pe_call c_check_matter_ok (hr.mono (by decide)) rfl c_check_matter_m c_check_matter_k c_check_matter_b .nil (passes_call tk (fun _ _ _ _ h => h)) (pa_cons (pv 0) (pa_cons (pv 1) pa_nil))))
      (pss_cons (ps_if (pt_not (pt_val (pe_call c_is_used_ok (hr.mono (by decide)) rfl c_is_used_m c_is_used_k c_is_used_b .nil (passes_call tk (fun _ _ _ _ h => h)) (pa_cons (pv 0) (pa_cons (pv 1) (pa_cons (pv 2) pa_nil)))))) (pss_one (ps_raise (W := fun cls d _ H => E cls d H) rfl tk (pmk_own PySem.F.excBase_ValueError T.x_BadCustom T.g_BadCustom T.e_BadCustom (raises_own T.b_BadCustom T.t_BadCustom) rfl))) pss_nil)
      (pss_one (ps_ret (pe_callTy call_tupU (by rfl) T.n_tuple (by decide +kernel) (pa_cons (pe_lc (own := [("valley", 3), ("row", 4)]) (g := gTup _ 2 (gCons (gName 3) (gCons (gName 4) gNil))) rfl sc_having.nd (RZ.pi_enumA (by rfl) T.n_enumerate (pa_cons (pe_fld (pv 0) rfl) pa_nil)) (blkOk_by (N := ["table", "matter", "custom", "valley", "row"]) (own := [("valley", 3), ("row", 4)]) (sc := defScope s_having) (by decide +kernel)) (fun _ _ _ _ _ => (pg_tup rfl (pgs_cons (pg_name (i := 3) sc_having.nd rfl (by first | exact Or.inl rfl | exact Or.inr rfl)) (pgs_cons (pg_name (i := 4) sc_having.nd rfl (by first | exact Or.inl rfl | exact Or.inr rfl)) pgs_nil)))) (fun _ _ _ _ _ => (pts_one (pt_cmpR (op_eqU hr.units) (pe_ix ix_seq (pv 4) (pv 1) (fun _ _ => rfl)) (pv 2) (nomark _)))) (fun _ _ _ _ _ => (pv 3))) pa_nil))))))),
    (rds_seq (rds_drop (rd_callX (rda_cons (rd_var (i := 0)) rda_nil)))
      (rds_seq (rds_drop (rd_callX (rda_cons (rd_var (i := 0)) (rda_cons (rd_var (i := 1)) rda_nil))))
      (rds_seq (rds_if (rdt_not (rdt_B (rd_callX (rda_cons (rd_var (i := 0)) (rda_cons (rd_var (i := 1)) (rda_cons (rd_var (i := 2)) rda_nil)))))) rds_raise rds_next)
      (rds_ret (rd_cb cal_tuple (rda_cons (rd_lc (rdj_of (rdi_enum (rda_cons (rd_fld (rd_var (i := 0))) rda_nil))) (rdg_two (vs := [3, 4]) (by decide) (by decide)) (rdt_test (rd_op o2_eq (rd_op o2_ix (rd_var (i := 4)) (rd_var (i := 1))) (rd_var (i := 2)))) (rd_var (i := 3))) rda_nil)))))), ?_⟩
  rintro ss n P XP ⟨d, v, c, rfl, xv, xc, h⟩
  walk_at "dl"
  rcases h with ⟨xd, ni, p⟩ | ⟨kn, rss, rfl, t, p1, p2⟩
  · exact ⟨_, rfl, .inr ⟨xd, ni, p⟩⟩
  refine ⟨_, rfl, .inl ⟨_, _, rfl, ?_⟩⟩
  refine ⟨_, _, v, rfl, xv, fun hb => ?_, fun hb => p1 (by rw [List.length_map] at hb; exact hb)⟩
  rw [List.length_map] at hb
  obtain ⟨m, rfl, hm⟩ := betw_nat hb
  have rl := t.rl
  refine ⟨kn, rss, m, c, rfl, xc, t, hm, fun us hu => ?_⟩
  obtain ⟨q1, q2⟩ := p2 m rfl hm us hu
  cases e : inU us c with
  | false => exact q1 e
  | true =>
    obtain ⟨x, rfl, hx⟩ := inU_int e
    refine ⟨T.na_Table_rows, _, rfl, ?_⟩
    show _ ∧ _
    refine ⟨by rw [enumD_len, List.length_map]; omega, compM_filter (f := havF m x) (fun y hy n2 k q => ?_) ?_⟩
    · obtain ⟨j, r, hr, rfl⟩ := enum_rows hy
      have hl : m < r.length := by rw [t.rw r (List.mem_of_getElem? hr)]; exact hm
      refine ⟨_, at_nat (j := m) (row_at hl), ?_⟩
      rw [havF_at hl] at q
      refine eqP_cell ?_
      by_cases e : r.getD m none = some x
      · rw [if_pos e] at q
        rw [decide_eq_true e]
        exact q
      · rw [if_neg e] at q
        rw [decide_eq_false e]
        exact q
    · rw [havF_map t hm]
      exact q2 x hx rfl

theorem sc_law_having : FnScope ["scope", "spot", "item", "valley_here", "each"] ["scope", "spot", "item"] (defScope s_law_having) := ⟨rfl, rfl, rfl, by decide +kernel, rfl, by decide +kernel, by decide +kernel⟩
theorem ok_law_having (T : Txt K mg cs tk0) (D : DefAt K mg "_law_having" s_law_having ["scope", "spot", "item"]) (c_law_column : Has P w K mg base CX0 1 "_law_column" ["scope", "spot"] (sp0 K TT ds_law_column)) : Has P w K mg base CX0 2 "_law_having" ["scope", "spot", "item"] (sp0 K TT ds_law_having) := by
  obtain ⟨f, fd, F, hm, hk, hb⟩ := D
  obtain ⟨_, _, c_law_column_ok, c_law_column_m, c_law_column_k, c_law_column_b⟩ := c_law_column
  refine ⟨f, fd, F.okD sc_law_having (len_law_having) (fun S cdv A outer s H E hr => ?_), hm, hk, hb⟩
  refine ⟨_, _, (pss_one (ps_ret (pe_lc (own := [("valley_here", 3), ("each", 4)]) (g := gTup _ 2 (gCons (gName 3) (gCons (gName 4) gNil))) rfl sc_law_having.nd (RZ.pi_enumA (by rfl) T.n_enumerate (pa_cons (pe_call c_law_column_ok (hr.mono (by decide)) rfl c_law_column_m c_law_column_k c_law_column_b .nil pass0 (pa_cons (pv 0) (pa_cons (pv 1) pa_nil))) pa_nil)) (blkOk_by (N := ["scope", "spot", "item", "valley_here", "each"]) (own := [("valley_here", 3), ("each", 4)]) (sc := defScope s_law_having) (by decide +kernel)) (fun _ _ _ _ _ => (pg_tup rfl (pgs_cons (pg_name (i := 3) sc_law_having.nd rfl (by first | exact Or.inl rfl | exact Or.inr rfl)) (pgs_cons (pg_name (i := 4) sc_law_having.nd rfl (by first | exact Or.inl rfl | exact Or.inr rfl)) pgs_nil)))) (fun _ _ _ _ _ => (pts_one (pt_cmpR (op_eqU hr.units) (pv 4) (pv 2) (nomark _)))) (fun _ _ _ _ _ => (pv 3))))),
    (rds_ret (rd_lc (rdj_of (rdi_enum (rda_cons (rd_call0 (E := E0) (rda_cons (rd_var (i := 0)) (rda_cons (rd_var (i := 1)) rda_nil))) rda_nil))) (rdg_two (vs := [3, 4]) (by decide) (by decide)) (rdt_test (rd_op o2_eq (rd_var (i := 4)) (rd_var (i := 2)))) (rd_var (i := 3)))), ?_⟩
  rintro ss n P ⟨kn, rss, m, x, rfl, t, hm, p⟩
  walk_at "dl"
  refine ⟨kn, rss, m, rfl, t, hm, ?_⟩
  have rl := t.rl
  have cl : (colO rss m).length = rss.length := List.length_map ..
  show _ ∧ _
  refine ⟨by rw [enumD_len, List.length_map]; omega, compM_filter (f := havG x) (fun y hy n2 k q => ?_) ?_⟩
  · obtain ⟨j, hj⟩ := List.mem_iff_getElem?.mp hy
    rw [enumD_get, List.getElem?_map] at hj
    obtain ⟨d, hd, rfl⟩ := Option.map_eq_some_iff.mp hj
    obtain ⟨o, ho, rfl⟩ := Option.map_eq_some_iff.mp hd
    refine eqP_cell ?_
    have e0 : cellO (oD o) = o := by cases o <;> rfl
    have q : k (if cellO (oD o) = some x then some _ else none) n2 := q
    rw [e0] at q
    by_cases e : o = some x
    · rw [if_pos e] at q
      rw [decide_eq_true e]
      exact q
    · rw [if_neg e] at q
      rw [decide_eq_false e]
      exact q
  · rw [havG_map]
    exact p


theorem sc_Table_eq : FnScope ["self", "other"] ["self", "other"] (defScope s_Table_eq) := ⟨rfl, rfl, rfl, by decide +kernel, rfl, by decide +kernel, by decide +kernel⟩
theorem ok_Table_eq (T : Txt K mg cs tk0) (D : EqAt K "Table.__eq__" cs.Table s_Table_eq) : SCo.HasEq P w K mg base 1 cs.Table (sp0 K TT (ds_Table_eq cs)) := by
  obtain ⟨f, fd, F, e9, hb9⟩ := D
  refine ⟨f, fd, F.okD sc_Table_eq (len_Table_eq cs) (fun S cdv A outer s H E hr => ?_), hb9, e9.e, e9.n, e9.f, e9.m⟩
  refine ⟨_, _, (pss_one (ps_ret (pe_and (pe_callB call_isD (by rfl) T.n_isinstance (by decide +kernel) (pa_cons (pv 1) (pa_cons (pe_glob (v := .ref cs.Table) rfl T.g_Table rfl) pa_nil))) (pe_and (pe_cmpR (op_eqU hr.units) (pe_fld (pv 0) rfl) (pe_fld (pv 1) rfl) (nomark _)) (pe_one (pe_cmpR (op_eqU hr.units) (pe_fld (pv 0) rfl) (pe_fld (pv 1) rfl) (nomark _))))))),
    (rds_ret (rd_andV (rd_is (.own _) (rd_var (i := 1))) (rd_andV (rd_op o2_eq (rd_fld (rd_var (i := 0))) (rd_fld (rd_var (i := 1)))) (rd_op o2_eq (rd_fld (rd_var (i := 0))) (rd_fld (rd_var (i := 1))))))), ?_⟩
  rintro ss n P ⟨kn, rss, x, rfl, h⟩
  walk_at "dl"
  rcases h with ⟨ln, qss, rfl, p⟩ | ⟨xd, ni, p⟩
  · refine ⟨trivial, true, T.i_Table, T.na_Table_kinds, _, rfl, T.na_Table_kinds, _, rfl, eqP_kn ?_⟩
    simp only [id]
    cases e : decide (kn = ln) with
    | false => rw [e] at p; exact p
    | true =>
      rw [e, Bool.true_and] at p
      exact ⟨T.na_Table_rows, _, rfl, T.na_Table_rows, _, rfl, eqP_rows p⟩
  · exact ⟨bare_of xd, false, kit_no T.no_Table xd ni, p⟩

theorem sc_law_told : FnScope ["state", "scope", "table_here", "spot", "customs_here", "item", "others", "bads", "args_here"] ["state", "scope", "table_here"] (defScope s_law_told) := ⟨rfl, rfl, rfl, by decide +kernel, rfl, by decide +kernel, by decide +kernel⟩
theorem ok_law_told {c9 : Addr} (T : Txt K mg cs tk0) (D : DefC K mg "_law_told" s_law_told ["state", "scope", "table_here"] c9) (c_law_used : Has P w K mg base CX0 2 "_law_used" ["scope", "spot"] (sp0 K TT ds_law_used)) (c_used : HasF P w K mg base (L2.CX P w) 4 "used" s_used ["table", "matter"] (spX K TT (ds_used cs))) (c_having : Has P w K mg base (L2.CX P w) 6 "having" ["table", "matter", "custom"] (spX K TT (ds_having cs))) (c_law_having : Has P w K mg base CX0 2 "_law_having" ["scope", "spot", "item"] (sp0 K TT ds_law_having)) (c_law_bad_table : Has P w K mg base CX0 3 "_law_bad_table" ["state"] (sp0 K TT ds_law_bad_table)) (c_law_bad_number : Has P w K mg base CX0 3 "_law_bad_number" ["state", "size_here"] (sp0 K TT ds_law_bad_number)) (c_law_refused : HasG P w K mg base CX0 25 "_law_refused" ["state", "work", "args", "bads"] (sp0 K TT (ds_law_refused K cs (LamOkD P w K mg base TT 20) (HeldD P w K mg base TT 5)))) (c_law_pick : Has P w K mg base CX0 2 "_law_pick" ["state", "several"] (sp0 K TT ds_law_pick)) (c_law_no_table : Has P w K mg base CX0 1 "_law_no_table" ["caught"] (sp0 K TT (ds_law_no_table cs))) (c_law_no_matter : Has P w K mg base CX0 1 "_law_no_matter" ["caught"] (sp0 K TT (ds_law_no_matter cs))) (c_law_no_custom : Has P w K mg base CX0 1 "_law_no_custom" ["caught"] (sp0 K TT (ds_law_no_custom cs))) (DC : DefAt K mg "_law_caught" s_law_caught ["work"]) (MA : MakesAt base mg TT "_law_told.<locals>.<lambda>" c9) : HasG P w K mg base CX0 29 "_law_told" ["state", "scope", "table_here"] (sp0 K TT (ds_law_told cs)) := by
  obtain ⟨f, fd, F, hm, hk, hb⟩ := D
  have hd_law_no_table := HasHeld c_law_no_table T.d__law_no_table (by decide : _ ≤ 5)
  have hd_law_no_matter := HasHeld c_law_no_matter T.d__law_no_matter (by decide : _ ≤ 5)
  have hd_law_no_custom := HasHeld c_law_no_custom T.d__law_no_custom (by decide : _ ≤ 5)
  obtain ⟨_, _, c_law_used_ok, c_law_used_m, c_law_used_k, c_law_used_b⟩ := c_law_used
  obtain ⟨_, _, c_used_ok, c_used_m, c_used_k, c_used_b, c_used_F⟩ := c_used
  obtain ⟨_, _, c_having_ok, c_having_m, c_having_k, c_having_b⟩ := c_having
  obtain ⟨_, _, c_law_having_ok, c_law_having_m, c_law_having_k, c_law_having_b⟩ := c_law_having
  obtain ⟨_, _, c_law_bad_table_ok, c_law_bad_table_m, c_law_bad_table_k, c_law_bad_table_b⟩ := c_law_bad_table
  obtain ⟨_, _, c_law_bad_number_ok, c_law_bad_number_m, c_law_bad_number_k, c_law_bad_number_b⟩ := c_law_bad_number
  obtain ⟨_, _, c_law_refused_ok, c_law_refused_m, c_law_refused_k, c_law_refused_b⟩ := c_law_refused
  obtain ⟨_, _, c_law_pick_ok, c_law_pick_m, c_law_pick_k, c_law_pick_b⟩ := c_law_pick
  refine ⟨f, fd, fnC_okD F sc_law_told (len_law_told cs) (fun S A outer s H E hg hr => ?_), hm, hk, hb⟩
  refine ⟨_, _, (pss_cons (ps_for PassesOwn.never rfl (pi_range1 (by rfl) T.n_range (pa_cons (pe_callB call_lenU (by rfl) T.n_len (by decide +kernel) (pa_cons (pe_dget (hu_of hr) (pv 1) pe_str (fun _ _ => rfl)) pa_nil)) pa_nil)) (pg_name (i := 3) sc_law_told.nd rfl (by first | exact Or.inl rfl | exact Or.inr rfl)) (pss_cons (ps_set (i := 4) sc_law_told.nd rfl (by first | exact Or.inl rfl | exact Or.inr rfl) (pe_call c_law_used_ok (hr.mono (by decide)) rfl c_law_used_m c_law_used_k c_law_used_b .nil pass0 (pa_cons (pv 1) (pa_cons (pv 3) pa_nil))))
      (pss_cons (ps_if (pt_cmpR (op_neU hr.units) (pe_callB (call_repr hg hr.units) (by rfl) T.n_repr (by decide +kernel) (pa_cons (pe_call c_used_ok (hr.mono (by decide)) rfl c_used_m c_used_k c_used_b .nil passL (pa_cons (pv 2) (pa_cons (pv 3) pa_nil))) pa_nil)) (pe_callB (call_repr hg hr.units) (by rfl) T.n_repr (by decide +kernel) (pa_cons (pe_callTy call_tupU (by rfl) T.n_tuple (by decide +kernel) (pa_cons (pv 4) pa_nil)) pa_nil)) (nomark _)) (pss_one (ps_ret pe_bl)) pss_nil)
      (pss_cons (ps_for PassesOwn.never rfl (pi_list (pv 4)) (pg_name (i := 5) sc_law_told.nd rfl (by first | exact Or.inl rfl | exact Or.inr rfl)) (pss_one (ps_if (pt_cmpR (op_neU hr.units) (pe_callB (call_repr hg hr.units) (by rfl) T.n_repr (by decide +kernel) (pa_cons (pe_call c_having_ok (hr.mono (by decide)) rfl c_having_m c_having_k c_having_b .nil passL (pa_cons (pv 2) (pa_cons (pv 3) (pa_cons (pv 5) pa_nil)))) pa_nil)) (pe_callB (call_repr hg hr.units) (by rfl) T.n_repr (by decide +kernel) (pa_cons (pe_callTy call_tupU (by rfl) T.n_tuple (by decide +kernel) (pa_cons (pe_call c_law_having_ok (hr.mono (by decide)) rfl c_law_having_m c_law_having_k c_law_having_b .nil pass0 (pa_cons (pv 1) (pa_cons (pv 3) (pa_cons (pv 5) pa_nil)))) pa_nil)) pa_nil)) (nomark _)) (pss_one (ps_ret pe_bl)) pss_nil)))
      (pss_cons (ps_setLc (i := 6) (own := [("item", 5)]) (g := gName 5) rfl sc_law_told.nd rfl rfl (sw_true rfl rfl rfl (by decide +kernel)) (pi_range1 (by rfl) T.n_range (pa_cons pe_int pa_nil)) (blkOk_by (N := ["state", "scope", "table_here", "spot", "customs_here", "item", "others", "bads", "args_here"]) (own := [("item", 5)]) (sc := defScope s_law_told) (by decide +kernel)) (fun _ _ _ _ _ => (pg_name (i := 5) sc_law_told.nd rfl (by first | exact Or.inl rfl | exact Or.inr rfl))) (fun _ _ _ _ _ => (pts_one (pt_cmpR (op_notInD (hu65_of hr)) (pv 5) (pv 4) (by with_unfolding_all rfl)))) (fun _ _ _ _ _ => (pv 5)))
      (pss_cons (ps_set (i := 7) sc_law_told.nd rfl (by first | exact Or.inl rfl | exact Or.inr rfl) (pe_lst (pa_cons (pe_tup (pa_cons pe_int (pa_cons (pe_call c_law_bad_table_ok (hr.mono (by decide)) rfl c_law_bad_table_m c_law_bad_table_k c_law_bad_table_b .nil pass0 (pa_cons (pv 0) pa_nil)) (pa_cons (pe_glob (v := .ref cs.law_no_table) rfl T.d__law_no_table rfl) pa_nil)))) pa_nil)))
      (pss_cons (ps_expr (pe_bm PySem.F.plainAttrs_list PySem.F.slot_list_append PySem.F.type_list_append mt_append (pv 7) (pa_cons (pe_tup (pa_cons pe_int (pa_cons (pe_call c_law_bad_number_ok (hr.mono (by decide)) rfl c_law_bad_number_m c_law_bad_number_k c_law_bad_number_b .nil pass0 (pa_cons (pv 0) (pa_cons (pe_callB call_lenU (by rfl) T.n_len (by decide +kernel) (pa_cons (pe_dget (hu_of hr) (pv 1) pe_str (fun _ _ => rfl)) pa_nil)) pa_nil))) (pa_cons (pe_glob (v := .ref cs.law_no_matter) rfl T.d__law_no_matter rfl) pa_nil)))) pa_nil)))
      (pss_cons (ps_if (pt_not (pt_val (pe_callG c_law_refused_ok hg (hr.mono (by decide)) rfl c_law_refused_m c_law_refused_k c_law_refused_b .nil pass0 (pa_cons (pv 0) (pa_cons (pe_lamV MA rfl rfl (fun _ => rfl) (noFree (by decide +kernel))) (pa_cons (pe_lst (pa_cons (pv 2) (pa_cons (pv 3) pa_nil))) (pa_cons (pv 7) pa_nil))))))) (pss_one (ps_ret pe_bl)) pss_nil)
      (pss_cons (ps_set (i := 7) sc_law_told.nd rfl (by first | exact Or.inl rfl | exact Or.inr rfl) (pe_op SCo.op_catL (pv 7) (pe_lst (pa_cons (pe_tup (pa_cons pe_int (pa_cons (pe_call c_law_pick_ok (hr.mono (by decide)) rfl c_law_pick_m c_law_pick_k c_law_pick_b .nil pass0 (pa_cons (pv 0) (pa_cons (pe_op SCo.op_catL (pe_lst (pa_cons (pe_un un_neg pe_int) (pa_cons pe_int (pa_cons pe_bl (pa_cons pe_bl (pa_cons pe_non (pa_cons pe_str (pa_cons (pe_tup (pa_cons pe_int pa_nil)) pa_nil)))))))) (pv 6)) pa_nil))) (pa_cons (pe_glob (v := .ref cs.law_no_custom) rfl T.d__law_no_custom rfl) pa_nil)))) pa_nil))))
      (pss_cons (ps_set (i := 8) sc_law_told.nd rfl (by first | exact Or.inl rfl | exact Or.inr rfl) (pe_lst (pa_cons (pv 2) (pa_cons (pv 3) (pa_cons (pe_ix ix_seq (pv 4) pe_int (fun _ _ => rfl)) pa_nil)))))
      (pss_one (ps_if (pt_not (pt_val (pe_callG c_law_refused_ok hg (hr.mono (by decide)) rfl c_law_refused_m c_law_refused_k c_law_refused_b .nil pass0 (pa_cons (pv 0) (pa_cons (pe_lamV MA rfl rfl (fun _ => rfl) (noFree (by decide +kernel))) (pa_cons (pv 8) (pa_cons (pv 7) pa_nil))))))) (pss_one (ps_ret pe_bl)) pss_nil))))))))))))
      (pss_one (ps_ret pe_bl))),
    (rds_seq (rds_for (rdi_range1 (rda_cons (rd_cb cal_len (rda_cons (rd_dget (rd_var (i := 1)) rd_str) rda_nil)) rda_nil)) (rdg_name (vs := [3]) (by decide)) (rds_seq (rds_set (rd_call0 (E := E0) (rda_cons (rd_var (i := 1)) (rda_cons (rd_var (i := 3)) rda_nil))))
      (rds_seq (rds_if (rdt_test (rd_op o2_ne (rd_cb cal_repr (rda_cons (rd_callN (rda_cons (rd_var (i := 2)) (rda_cons (rd_var (i := 3)) rda_nil))) rda_nil)) (rd_cb cal_repr (rda_cons (rd_cb cal_tuple (rda_cons (rd_var (i := 4)) rda_nil)) rda_nil)))) (rds_ret rd_bl) rds_next)
      (rds_seq (rds_for (rdi_list (rd_var (i := 4))) (rdg_name (vs := [5]) (by decide)) (rds_if (rdt_test (rd_op o2_ne (rd_cb cal_repr (rda_cons (rd_callN (rda_cons (rd_var (i := 2)) (rda_cons (rd_var (i := 3)) (rda_cons (rd_var (i := 5)) rda_nil)))) rda_nil)) (rd_cb cal_repr (rda_cons (rd_cb cal_tuple (rda_cons (rd_call0 (E := E0) (rda_cons (rd_var (i := 1)) (rda_cons (rd_var (i := 3)) (rda_cons (rd_var (i := 5)) rda_nil)))) rda_nil)) rda_nil)))) (rds_ret rd_bl) rds_next))
      (rds_seq (rds_set (rd_lc (rdj_of (rdi_range1 (rda_cons rd_int rda_nil))) (rdg_name (vs := [5]) (by decide)) (rdt_test (rd_op o2_notInLI (rd_var (i := 5)) (rd_var (i := 4)))) (rd_var (i := 5))))
      (rds_seq (rds_setO (rdn_lst (rda_cons (rd_tup (rda_cons rd_int (rda_cons (rd_call0 (E := E0) (rda_st (i := 0) rda_nil)) (rda_cons rd_fnv rda_nil)))) rda_nil)))
      (rds_seq (rds_appO (i := 7) (rd_tup (rda_cons rd_int (rda_cons (rd_call0 (E := E0) (rda_st (i := 0) (rda_cons (rd_cb cal_len (rda_cons (rd_dget (rd_var (i := 1)) rd_str) rda_nil)) rda_nil))) (rda_cons rd_fnv rda_nil)))))
      (rds_seq (rds_frz (i := 7) (rds_if (rdt_not (rdt_B (rd_call0 (E := E0) (rda_st (i := 0) (rda_lamV (j := 0) (LD := LamOkD P w K mg base TT 20) (lamOkD_of (k := 19) (N := ["told"]) (x := "told") (lamScope ⟨rfl, rfl, rfl, by decide +kernel, rfl, by decide +kernel, by decide +kernel⟩) (fun _ _ _ _ => rfl) (fun S9 c9 A9 outer9 s9 H9 f9 E9 hr => ⟨_, _, (pe_call c_used_ok (hr.mono (by decide)) rfl c_used_m c_used_k c_used_b .nil (passes_call (takes_of rfl rfl rfl rfl) (fun _ _ _ _ h => h)) (pa_cons (pe_ix ix_seq (pv 0) pe_int (fun _ _ => rfl)) (pa_cons (pe_ix ix_seq (pv 0) pe_int (fun _ _ => rfl)) pa_nil))), (rd_callX (rda_cons (rd_op o2_ix (rd_var (i := 0)) rd_int) (rda_cons (rd_op o2_ix (rd_var (i := 0)) rd_int) rda_nil))), fun _ _ _ _ h => h⟩)) (rda_cons (rd_lst (rda_cons (rd_var (i := 2)) (rda_cons (rd_var (i := 3)) rda_nil))) (rda_cons (rd_var (i := 7)) rda_nil))))))) (rds_ret rd_bl) rds_next))
      (rds_seq (rds_set (rd_op o2_addL (rd_var (i := 7)) (rd_lst (rda_cons (rd_tup (rda_cons rd_int (rda_cons (rd_call0 (E := E0) (rda_st (i := 0) (rda_cons (rd_op o2_addL (rd_lst (rda_cons (rd_un o1_neg rd_int) (rda_cons rd_int (rda_cons rd_bl (rda_cons rd_bl (rda_cons rd_non (rda_cons rd_str (rda_cons (rd_tup (rda_cons rd_int rda_nil)) rda_nil)))))))) (rd_var (i := 6))) rda_nil))) (rda_cons rd_fnv rda_nil)))) rda_nil))))
      (rds_seq (rds_set (rd_lst (rda_cons (rd_var (i := 2)) (rda_cons (rd_var (i := 3)) (rda_cons (rd_op o2_ix (rd_var (i := 4)) rd_int) rda_nil)))))
      (rds_if (rdt_not (rdt_B (rd_call0 (E := E0) (rda_st (i := 0) (rda_lamV (j := 0) (LD := LamOkD P w K mg base TT 20) (lamOkD_of (k := 19) (N := ["told"]) (x := "told") (lamScope ⟨rfl, rfl, rfl, by decide +kernel, rfl, by decide +kernel, by decide +kernel⟩) (fun _ _ _ _ => rfl) (fun S9 c9 A9 outer9 s9 H9 f9 E9 hr => ⟨_, _, (pe_call c_having_ok (hr.mono (by decide)) rfl c_having_m c_having_k c_having_b .nil (passes_call (takes_of rfl rfl rfl rfl) (fun _ _ _ _ h => h)) (pa_cons (pe_ix ix_seq (pv 0) pe_int (fun _ _ => rfl)) (pa_cons (pe_ix ix_seq (pv 0) pe_int (fun _ _ => rfl)) (pa_cons (pe_ix ix_seq (pv 0) pe_int (fun _ _ => rfl)) pa_nil)))), (rd_callX (rda_cons (rd_op o2_ix (rd_var (i := 0)) rd_int) (rda_cons (rd_op o2_ix (rd_var (i := 0)) rd_int) (rda_cons (rd_op o2_ix (rd_var (i := 0)) rd_int) rda_nil)))), fun _ _ _ _ h => h⟩)) (rda_cons (rd_var (i := 8)) (rda_cons (rd_var (i := 7)) rda_nil))))))) (rds_ret rd_bl) rds_next)))))))))))
      (rds_ret rd_bl)), ?_⟩
  rintro ss n P ⟨kn, rss, rfl, t, hn, p⟩
  walk_at "dl"
  have hn' : n + 5000 < 1099511627776 := hn
  have kl := t.kl
  have rl := t.rl
  have el : (rangeD 0 (kn.length : Int).toNat).length = kn.length := range_len
  rw [List.length_map]
  refine ⟨by omega, by omega, fun i ρ n' => n' ≤ n + 500 * i ∧ ∃ (u3 u4 u5 u6 u7 u8 : SV), ρ = [.st, .d (.dic [.inr "kinds", .inr "rows"] [.tup (kn.map D.int), .tup (rss.map rowD)]), .d (tabD cs.Table (kn.map D.int) (rss.map rowD)), u3, u4, u5, u6, u7, u8], ⟨by omega, _, _, _, _, _, _, rfl⟩, ?_, ?_⟩
  · rintro i x ρ n' hx ⟨hn2, u3, u4, u5, u6, u7, u8, rfl⟩
    obtain ⟨hi, rfl⟩ := range_get hx
    clear hx
    have inb : betw 0 ((kn.length : Int) - 1) (.int (i : Int)) = true := by simp only [betw, Bool.and_eq_true, decide_eq_true_eq]; omega
    have usd : ∀ {us : List Int} (hu : UsedO rss i us) {n1 : Nat} {Q : DQ} {XQ : DX}, Q (.tup (us.map D.int)) n1 → ds_used cs [.d (tabD cs.Table (kn.map D.int) (rss.map rowD)), .d (.int (i : Int))] n1 Q XQ := fun {us} hu {n1 Q XQ} q =>
      ⟨_, _, rfl, rfl, .inr ⟨kn, rss, rfl, t, (fun hb => by rw [inb] at hb; cases hb), fun m2 em hm2 us2 hu2 => by
        obtain rfl : i = m2 := by have := D.int.inj em; omega
        rw [used_one hu2 hu]
        exact q⟩⟩
    walk_at "dl"
    refine ⟨kn, rss, i, rfl, t, hi, fun us hu => ?_⟩
    obtain ⟨ul, u1, ur⟩ := used_range t hi hu
    obtain ⟨pd, p1, p2⟩ := ok_intsN (xs := us) (by omega) fun x hx => by have := ur x hx; omega
    refine usd hu ?_
    refine ⟨pd, p1, p2, ?_⟩
    refine ⟨pd, p1, p2, ?_⟩
    show eqP not (.str pd.shown) (.str pd.shown) _
    rw [eqP_str, decide_eq_true rfl]
    show ∃ I, _
    refine ⟨fun a ρ n9 => n9 = n' ∧ ∃ (w5 : SV), ρ = [.st, .d (.dic [.inr "kinds", .inr "rows"] [.tup (kn.map D.int), .tup (rss.map rowD)]), .d (tabD cs.Table (kn.map D.int) (rss.map rowD)), .d (.int (i : Int)), .d (.lst (us.map D.int)), w5, u6, u7, u8], ⟨rfl, _, rfl⟩, ?_, ?_⟩
    · rintro a x ρ n9 hx ⟨hn9, w5, rfl⟩
      subst hn9
      rw [List.getElem?_map] at hx
      obtain ⟨c, hc, rfl⟩ := Option.map_eq_some_iff.mp hx
      have hcm := List.mem_of_getElem? hc
      obtain ⟨h1, h2⟩ := havL_ok rl.2 (m := i) (x := c)
      obtain ⟨qd, q1, q2⟩ := ok_intsN (by omega) h2
      walk_at "dl"
      refine ⟨_, _, _, rfl, rfl, rfl, .inr ⟨kn, rss, rfl, t, (fun hb => by rw [inb] at hb; cases hb), fun m2 em hm2 us2 hu2 => ?_⟩⟩
      obtain rfl : i = m2 := by have := D.int.inj em; omega
      obtain rfl := used_one hu2 hu
      refine ⟨(fun hb => by rw [show inU us2 (.int c) = decide (c ∈ us2) from rfl, decide_eq_true hcm] at hb; cases hb), fun x hx ex => ?_⟩
      obtain rfl : c = x := D.int.inj ex
      refine ⟨qd, q1, q2, ?_⟩
      refine ⟨kn, rss, i, c, rfl, t, hm2, ?_⟩
      refine ⟨qd, q1, q2, ?_⟩
      show eqP not (.str qd.shown) (.str qd.shown) _
      rw [eqP_str, decide_eq_true rfl]
      exact ⟨rfl, _, rfl⟩
    · rintro ρ n9 ⟨hn9, w5, rfl⟩
      subst hn9
      walk_at "dl"
      have refd : ∀ {LD : LamP} {HD : HldP} {F : FV} {G : D → Nat → DQ → DX → Prop} {args bads : List D} {n : Nat} {Q : DQ}, LD F G → 1 ≤ bads.length → bads.length ≤ 100 → args.length ≤ 100 → n + 200 < LIM →
          (∀ b ∈ bads, ∃ (i : Nat) (d : D) (f : Addr), b = .tup [.int (i : Int), d, .fnv f] ∧ i < args.length) → (∀ m, m ≤ n + 200 → Q (.bl true) m) →
          (∀ (wrong : List D) (m i : Nat) (d : D) (f : Addr), wrong.Sublist bads → wrong.head? = some (.tup [.int (i : Int), d, .fnv f]) → m ≤ n + 200 → ∀ (P' : DQ) (XP' : DX), (∀ C, ErrC K cs.FoundError C → (∃ DS : DSp0, HD f DS ∧ ∀ n (R : DQ), R (.bl true) n → DS [.d (.exc C [] [])] n R) → XP' C [] [] m) → G (.lst (putsD args wrong)) m P' XP') →
          ds_law_refused K cs LD HD [.st, .fv F, .d (.lst args), .d (.lst bads)] n Q :=
        fun {LD HD F G args bads n Q} hF h1 h2 h3 hn hd tail hw => ⟨F, G, args, bads, rfl, hF, h1, h2, h3, hn, hd, fun wrong m i d f hs hh hm P' XP' hX => hw wrong m i d f hs hh hm P' XP' fun C hE ⟨DS, hD, hP⟩ => hX C [] [] m ⟨hE, DS, hD, hP m Q (tail m hm)⟩⟩
      have e6 : (rangeD 0 (Int.toNat 6)).length = 6 := rfl
      refine ⟨by decide, by decide, by decide, compM_filter (f := notF us) (fun x hx n2 k q => ?_) ?_⟩
      · obtain ⟨v, _, rfl⟩ := range_mem (m := 6) hx
        refine ⟨(v : Int), rfl, us, rfl, ?_⟩
        rw [any_in0]
        unfold notF at q
        rw [show inU us (.int (v : Int)) = decide ((v : Int) ∈ us) from rfl] at q
        cases e : decide ((v : Int) ∈ us) with
        | true => rw [e] at q; exact q
        | false => rw [e] at q; exact q
      have nf := notF_len us
      have nm := fun d hd => notF_mem (us := us) (d := d) hd
      generalize (rangeD 0 (Int.toNat 6)).filterMap (notF us) = os at nf nm ⊢
      refine ⟨rfl, lim (by omega), fun bt n3 hn3 xbt nibt => ?_⟩
      refine ⟨_, rfl, lim (by omega), fun bn n4 hn4 xbn bbn => ?_⟩
      rw [List.length_map] at bbn
      have errT : ErrC K cs.FoundError cs.BadTable ∧ (∃ DS : DSp0, HeldD _ w K mg base TT 5 cs.law_no_table DS ∧ ∀ n (R : DQ), R (.bl true) n → DS [.d (.exc cs.BadTable [] [])] n R) := ⟨T.r_BadTable, ds_law_no_table cs, hd_law_no_table, fun n R h => ⟨rfl, h⟩⟩
      have errM : ErrC K cs.FoundError cs.BadMatter ∧ (∃ DS : DSp0, HeldD _ w K mg base TT 5 cs.law_no_matter DS ∧ ∀ n (R : DQ), R (.bl true) n → DS [.d (.exc cs.BadMatter [] [])] n R) := ⟨T.r_BadMatter, ds_law_no_matter cs, hd_law_no_matter, fun n R h => ⟨rfl, h⟩⟩
      have errC : ErrC K cs.FoundError cs.BadCustom ∧ (∃ DS : DSp0, HeldD _ w K mg base TT 5 cs.law_no_custom DS ∧ ∀ n (R : DQ), R (.bl true) n → DS [.d (.exc cs.BadCustom [] [])] n R) := ⟨T.r_BadCustom, ds_law_no_custom cs, hd_law_no_custom, fun n R h => ⟨rfl, h⟩⟩
      refine ⟨by decide, fun F1 hF1 => refd hF1 (by simp) (by simp) (by simp) (lim (by omega)) (fun b hb => ?_) (fun m5 hn5 => ?_) (fun wrong m5 i0 d0 f0 hsub hhead hm5 P' XP' hX => ?_)⟩
      · simp only [List.mem_cons, List.not_mem_nil, or_false] at hb
        rcases hb with rfl | rfl
        · exact ⟨0, _, _, rfl, by simp⟩
        · exact ⟨1, _, _, rfl, by simp⟩
      · refine ⟨by omega, _, .inr rfl, by simp, by simp; omega, lim (by omega), fun bc hbc n6 hn6 => ?_⟩
        obtain ⟨xbc, ibc⟩ : nx bc = true ∧ inU us bc = false := by
          simp only [List.mem_cons] at hbc
          rcases hbc with rfl | rfl | rfl | rfl | rfl | rfl | rfl | hbc
          · exact ⟨rfl, decide_eq_false fun h => by have := ur _ h; omega⟩
          · exact ⟨rfl, decide_eq_false fun h => by have := ur _ h; omega⟩
          · exact ⟨rfl, rfl⟩
          · exact ⟨rfl, rfl⟩
          · exact ⟨rfl, rfl⟩
          · exact ⟨rfl, rfl⟩
          · exact ⟨rfl, rfl⟩
          · exact nm _ hbc
        obtain ⟨c0, us', rfl⟩ : ∃ c0 us', us = c0 :: us' := by
          cases us with
          | nil => simp at u1
          | cons a b => exact ⟨a, b, rfl⟩
        refine ⟨_, at_zero, fun F2 hF2 => refd hF2 (by simp) (by simp) (by simp) (lim (by omega)) (fun b hb => ?_) (fun m7 hn7 => ?_) (fun wrong m7 i0 d0 f0 hsub hhead hm7 P' XP' hX => ?_)⟩
        · simp only [List.mem_cons, List.not_mem_nil, or_false] at hb
          rcases hb with rfl | rfl | rfl
          · exact ⟨0, _, _, rfl, by simp⟩
          · exact ⟨1, _, _, rfl, by simp⟩
          · exact ⟨2, _, _, rfl, by simp⟩
        · exact ⟨by omega, _, _, _, _, _, _, rfl⟩
        · have W0 : cs.law_no_table = f0 → ∀ a b, nx a = true → nx b = true → ds_having cs [.d bt, .d a, .d b] m7 P' XP' := fun hf a b na nb => by
            subst hf
            exact ⟨_, _, _, rfl, na, nb, .inl ⟨xbt, nibt, hX _ errT.1 errT.2⟩⟩
          have W1 : cs.law_no_matter = f0 → ∀ b, nx b = true → ds_having cs [.d (tabD cs.Table (kn.map D.int) (rss.map rowD)), .d bn, .d b] m7 P' XP' := fun hf b nb => by
            subst hf
            exact ⟨_, _, _, rfl, xbn, nb, .inr ⟨kn, rss, rfl, t, (fun _ => hX _ errM.1 errM.2), fun m em hm => by
              subst em
              simp only [betw, Bool.and_eq_false_iff, decide_eq_false_iff_not] at bbn
              omega⟩⟩
          have W2 : cs.law_no_custom = f0 → ds_having cs [.d (tabD cs.Table (kn.map D.int) (rss.map rowD)), .d (.int (i : Int)), .d bc] m7 P' XP' := fun hf => by
            subst hf
            exact ⟨_, _, _, rfl, rfl, xbc, .inr ⟨kn, rss, rfl, t, (fun hb => by rw [inb] at hb; cases hb), fun m2 em hm2 us2 hu2 => by
              obtain rfl : i = m2 := by have := D.int.inj em; omega
              obtain rfl := used_one hu2 hu
              exact ⟨fun _ => hX _ errC.1 errC.2, fun x hx ex => by
                subst ex
                rw [show inU (c0 :: us') (.int x) = decide (x ∈ c0 :: us') from rfl, decide_eq_true hx] at ibc
                cases ibc⟩⟩⟩
          rcases sub_cons hsub with z1 | ⟨t1, rfl, z1⟩ <;> rcases sub_cons z1 with z2 | ⟨t2, rfl, z2⟩ <;> rcases sub_cons z2 with z3 | ⟨t3, rfl, z3⟩ <;> obtain rfl := sub_nil z3 <;>
            first
            | (cases hhead; done)
            | (have hf : cs.law_no_custom = f0 := by (simp at hhead; exact hhead.2.2)
               exact ⟨_, at_zero, _, at_nat (j := 1) rfl, _, at_nat (j := 2) rfl, rfl, W2 hf⟩)
            | (have hf : cs.law_no_matter = f0 := by (simp at hhead; exact hhead.2.2)
               exact ⟨_, at_zero, _, at_nat (j := 1) rfl, _, at_nat (j := 2) rfl, rfl, W1 hf _ (by first | rfl | exact xbc)⟩)
            | (have hf : cs.law_no_table = f0 := by (simp at hhead; exact hhead.2.2)
               exact ⟨_, at_zero, _, at_nat (j := 1) rfl, _, at_nat (j := 2) rfl, rfl, W0 hf _ _ (by first | rfl | exact xbn) (by first | rfl | exact xbc)⟩)
      · have W0 : cs.law_no_table = f0 → ∀ a, nx a = true → ds_used cs [.d bt, .d a] m5 P' XP' := fun hf a na => by
          subst hf
          exact ⟨_, _, rfl, na, .inl ⟨xbt, nibt, hX _ errT.1 errT.2⟩⟩
        have W1 : cs.law_no_matter = f0 → ds_used cs [.d (tabD cs.Table (kn.map D.int) (rss.map rowD)), .d bn] m5 P' XP' := fun hf => by
          subst hf
          exact ⟨_, _, rfl, xbn, .inr ⟨kn, rss, rfl, t, (fun _ => hX _ errM.1 errM.2), fun m em hm => by
            subst em
            simp only [betw, Bool.and_eq_false_iff, decide_eq_false_iff_not] at bbn
            omega⟩⟩
        rcases sub_cons hsub with z1 | ⟨t1, rfl, z1⟩ <;> rcases sub_cons z1 with z2 | ⟨t2, rfl, z2⟩ <;> obtain rfl := sub_nil z2 <;>
          first
          | (cases hhead; done)
          | (have hf : cs.law_no_matter = f0 := by (simp at hhead; exact hhead.2.2)
             exact ⟨_, at_zero, _, at_nat (j := 1) rfl, rfl, W1 hf⟩)
          | (have hf : cs.law_no_table = f0 := by (simp at hhead; exact hhead.2.2)
             exact ⟨_, at_zero, _, at_nat (j := 1) rfl, rfl, W0 hf _ (by first | rfl | exact xbn)⟩)
  · rintro ρ n' ⟨hn2, u3, u4, u5, u6, u7, u8, rfl⟩
    rw [el] at hn2
    exact p _ (by omega)

theorem sc_law_equal : FnScope ["state", "scope", "table_here", "item", "kinds_here", "rows_here", "spot", "at", "other"] ["state", "scope", "table_here"] (defScope s_law_equal) := ⟨rfl, rfl, rfl, by decide +kernel, rfl, by decide +kernel, by decide +kernel⟩
theorem ok_law_equal (T : Txt K mg cs tk0) (D : DefAt K mg "_law_equal" s_law_equal ["state", "scope", "table_here"]) (c_law_draw : Has P w K mg base CX0 1 "_law_draw" ["state", "size_here"] (sp0 K TT ds_law_draw)) (c_law_put : Has P w K mg base CX0 1 "_law_put" ["row", "spot", "item"] (sp0 K TT ds_law_put)) (c_Table : HasI P w K mg base 6 cs.Table "kinds" "rows" (spI K TT cs.Table (ds_Table_init cs))) (c_Table_eq : SCo.HasEq P w K mg base 1 cs.Table (sp0 K TT (ds_Table_eq cs))) : Has P w K mg base CX0 8 "_law_equal" ["state", "scope", "table_here"] (sp0 K TT (ds_law_equal cs)) := by
  obtain ⟨f, fd, F, hm, hk, hb⟩ := D
  obtain ⟨_, _, c_law_draw_ok, c_law_draw_m, c_law_draw_k, c_law_draw_b⟩ := c_law_draw
  obtain ⟨_, _, c_law_put_ok, c_law_put_m, c_law_put_k, c_law_put_b⟩ := c_law_put
  obtain ⟨_, _, c_Table_ok, c_Table_mk, c_Table_b, c_Table_kb⟩ := c_Table
  refine ⟨f, fd, F.okD sc_law_equal (len_law_equal cs) (fun S cdv A outer s H E hr => ?_), hm, hk, hb⟩
  refine ⟨_, _, (pss_cons (ps_par (i := 4) (j := 5) rfl sc_law_equal.nd rfl rfl (by decide) rfl rfl (pa_cons (pe_dget (hu_of hr) (pv 1) pe_str (fun _ _ => rfl)) (pa_cons (pe_dget (hu_of hr) (pv 1) pe_str (fun _ _ => rfl)) pa_nil)) (by rfl))
      (pss_cons (ps_if (PW.pt (pw_or (pt_not (pt_cmpR (SCo.op_eqOwn c_Table_eq (hr.mono (by decide))) (pv 2) (pe_make c_Table_mk c_Table_ok (hr.mono (by decide)) rfl T.g_Table c_Table_b .nil passL (pa_cons (pv 4) (pa_cons (pv 5) pa_nil))) (nomark _))) (pw_or1 (pt_cmpR (SCo.op_eqAny c_Table_eq (hr.mono (by decide))) (pv 2) (pe_tup (pa_cons (pv 4) (pa_cons (pv 5) pa_nil))) (nomark _))))) (pss_one (ps_ret pe_bl)) pss_nil)
      (pss_cons (ps_par (i := 6) (j := 7) rfl sc_law_equal.nd rfl rfl (by decide) rfl rfl (pa_cons (pe_call c_law_draw_ok (hr.mono (by decide)) rfl c_law_draw_m c_law_draw_k c_law_draw_b .nil pass0 (pa_cons (pv 0) (pa_cons (pe_callB call_lenU (by rfl) T.n_len (by decide +kernel) (pa_cons (pv 4) pa_nil)) pa_nil))) (pa_cons (pe_call c_law_draw_ok (hr.mono (by decide)) rfl c_law_draw_m c_law_draw_k c_law_draw_b .nil pass0 (pa_cons (pv 0) (pa_cons (pe_callB call_lenU (by rfl) T.n_len (by decide +kernel) (pa_cons (pv 5) pa_nil)) pa_nil))) pa_nil)) (by rfl))
      (pss_cons (ps_if (PW.pt (pw_and (pt_cmpR op_lt (pe_ix ix_seq (pv 4) (pv 6) (fun _ _ => rfl)) pe_int (nomark _)) (pw_and1 (pt_cmpR (SCo.op_eqOwn c_Table_eq (hr.mono (by decide))) (pv 2) (pe_make c_Table_mk c_Table_ok (hr.mono (by decide)) rfl T.g_Table c_Table_b .nil passL (pa_cons (pe_call c_law_put_ok (hr.mono (by decide)) rfl c_law_put_m c_law_put_k c_law_put_b .nil pass0 (pa_cons (pv 4) (pa_cons (pv 6) (pa_cons (pe_op op_addU (pe_ix ix_seq (pv 4) (pv 6) (fun _ _ => rfl)) pe_int) pa_nil)))) (pa_cons (pv 5) pa_nil))) (nomark _))))) (pss_one (ps_ret pe_bl)) pss_nil)
      (pss_cons (ps_set (i := 3) sc_law_equal.nd rfl (by first | exact Or.inl rfl | exact Or.inr rfl) (pe_call c_law_draw_ok (hr.mono (by decide)) rfl c_law_draw_m c_law_draw_k c_law_draw_b .nil pass0 (pa_cons (pv 0) (pa_cons (pe_ix ix_seq (pv 4) (pv 6) (fun _ _ => rfl)) pa_nil))))
      (pss_cons (ps_if (pt_cmpR (op_neU hr.units) (pe_ix ix_seq (pe_ix ix_seq (pv 5) (pv 7) (fun _ _ => rfl)) (pv 6) (fun _ _ => rfl)) (pv 3) (nomark _)) (pss_one (ps_if (pt_cmpR (SCo.op_eqOwn c_Table_eq (hr.mono (by decide))) (pv 2) (pe_make c_Table_mk c_Table_ok (hr.mono (by decide)) rfl T.g_Table c_Table_b .nil passL (pa_cons (pv 4) (pa_cons (pe_call c_law_put_ok (hr.mono (by decide)) rfl c_law_put_m c_law_put_k c_law_put_b .nil pass0 (pa_cons (pv 5) (pa_cons (pv 7) (pa_cons (pe_call c_law_put_ok (hr.mono (by decide)) rfl c_law_put_m c_law_put_k c_law_put_b .nil pass0 (pa_cons (pe_ix ix_seq (pv 5) (pv 7) (fun _ _ => rfl)) (pa_cons (pv 6) (pa_cons (pv 3) pa_nil)))) pa_nil)))) pa_nil))) (nomark _)) (pss_one (ps_ret pe_bl)) pss_nil)) pss_nil)
      (pss_one (ps_ret (pe_cmpR (op_eqU hr.units) (pe_lc (own := [("other", 8)]) (g := gName 8) rfl sc_law_equal.nd (pi_list (pe_lst (pa_cons pe_non (pa_cons pe_int (pa_cons pe_str (pa_cons (pv 4) (pa_cons (pv 5) (pa_cons (pe_lst pa_nil) (pa_cons pe_dnewK pa_nil))))))))) (blkOk_by (N := ["state", "scope", "table_here", "item", "kinds_here", "rows_here", "spot", "at", "other"]) (own := [("other", 8)]) (sc := defScope s_law_equal) (by decide +kernel)) (fun _ _ _ _ _ => (pg_name (i := 8) sc_law_equal.nd rfl (by first | exact Or.inl rfl | exact Or.inr rfl))) (fun _ _ _ _ _ => (pts_one (pt_cmpR (SCo.op_eqAny c_Table_eq (hr.mono (by decide))) (pv 2) (pv 8) (nomark _)))) (fun _ _ _ _ _ => pe_int)) (pe_lst pa_nil) (nomark _)))))))))),
    (rds_seq (rds_par (i := 4) (j := 5) (rda_cons (rd_dget (rd_var (i := 1)) rd_str) (rda_cons (rd_dget (rd_var (i := 1)) rd_str) rda_nil)))
      (rds_seq (rds_if (rdt_or (rdt_not (rdt_test (rd_cmpO (rd_var (i := 2)) (rd_make (rda_cons (rd_var (i := 4)) (rda_cons (rd_var (i := 5)) rda_nil)))))) (rdt_test (rd_cmpA (rd_var (i := 2)) (rd_tup (rda_cons (rd_var (i := 4)) (rda_cons (rd_var (i := 5)) rda_nil)))))) (rds_ret rd_bl) rds_next)
      (rds_seq (rds_par (i := 6) (j := 7) (rda_cons (rd_call0 (E := E0) (rda_st (i := 0) (rda_cons (rd_cb cal_len (rda_cons (rd_var (i := 4)) rda_nil)) rda_nil))) (rda_cons (rd_call0 (E := E0) (rda_st (i := 0) (rda_cons (rd_cb cal_len (rda_cons (rd_var (i := 5)) rda_nil)) rda_nil))) rda_nil)))
      (rds_seq (rds_if (rdt_and (rdt_test (rd_op o2_cmp (rd_op o2_ix (rd_var (i := 4)) (rd_var (i := 6))) rd_int)) (rdt_test (rd_cmpO (rd_var (i := 2)) (rd_make (rda_cons (rd_call0 (E := E0) (rda_cons (rd_var (i := 4)) (rda_cons (rd_var (i := 6)) (rda_cons (rd_op o2_add (rd_op o2_ix (rd_var (i := 4)) (rd_var (i := 6))) rd_int) rda_nil)))) (rda_cons (rd_var (i := 5)) rda_nil)))))) (rds_ret rd_bl) rds_next)
      (rds_seq (rds_set (rd_call0 (E := E0) (rda_st (i := 0) (rda_cons (rd_op o2_ix (rd_var (i := 4)) (rd_var (i := 6))) rda_nil))))
      (rds_seq (rds_if (rdt_test (rd_op o2_ne (rd_op o2_ix (rd_op o2_ix (rd_var (i := 5)) (rd_var (i := 7))) (rd_var (i := 6))) (rd_var (i := 3)))) (rds_if (rdt_test (rd_cmpO (rd_var (i := 2)) (rd_make (rda_cons (rd_var (i := 4)) (rda_cons (rd_call0 (E := E0) (rda_cons (rd_var (i := 5)) (rda_cons (rd_var (i := 7)) (rda_cons (rd_call0 (E := E0) (rda_cons (rd_op o2_ix (rd_var (i := 5)) (rd_var (i := 7))) (rda_cons (rd_var (i := 6)) (rda_cons (rd_var (i := 3)) rda_nil)))) rda_nil)))) rda_nil))))) (rds_ret rd_bl) rds_next) rds_next)
      (rds_ret (rd_op o2_eq (rd_lc (rdj_of (rdi_list (rd_lst (rda_cons rd_non (rda_cons rd_int (rda_cons rd_str (rda_cons (rd_var (i := 4)) (rda_cons (rd_var (i := 5)) (rda_cons (rd_lst rda_nil) (rda_cons rd_dnew rda_nil)))))))))) (rdg_name (vs := [8]) (by decide)) (rdt_test (rd_cmpA (rd_var (i := 2)) (rd_var (i := 8)))) rd_int) (rd_lst rda_nil))))))))), ?_⟩
  rintro ss n P ⟨kn, rss, rfl, t, hn, p⟩
  walk_at "dl"
  have hn' : n + 300 < 1099511627776 := hn
  have kl := t.kl
  have rl := t.rl
  have mk : ∀ {ln : List Int} {qss : Rows} (u : TabN ln qss) {n : Nat} {Q : List Str → List D → Nat → Prop} {XQ : DX}, Q kR [.tup (ln.map D.int), .tup (qss.map rowD)] n → ds_Table_init cs [.d (.tup (ln.map D.int)), .d (.tup (qss.map rowD))] n Q XQ := fun {ln qss} u {n Q XQ} q =>
    ⟨_, _, rfl, kinds_nx (tab_kinds u), rows_nx (tab_rows u), (fun hb => by rw [tab_kinds u] at hb; cases hb), (fun _ hb => by rw [show rowsB (ln.map D.int) (.tup (qss.map rowD)) = true from tab_rows u] at hb; cases hb), fun _ _ => q⟩
  refine ⟨T.ic_Table, mk t ?_⟩
  refine ⟨⟨_, _, rfl⟩, ⟨_, _, rfl⟩, kn, rss, _, rfl, .inl ⟨kn, rss, rfl, _, rfl, ?_⟩⟩
  rw [decide_eq_true rfl, decide_eq_true rfl]
  refine ⟨⟨_, _, rfl⟩, rfl, T.nf_Table "tuple" (by decide), kn, rss, _, rfl, .inr ⟨?_, (fun _ _ _ z => by cases z), _, rfl, ?_⟩⟩
  · refine nxs_of fun d hd => ?_
    simp only [List.mem_cons, List.not_mem_nil, or_false] at hd
    rcases hd with rfl | rfl
    · exact kinds_nx (tab_kinds t)
    · exact rows_nx (tab_rows t)
  refine ⟨_, rfl, by rw [List.length_map]; omega, by rw [List.length_map]; omega, lim (by omega), fun a n1 a0 a1 hn1 => ?_⟩
  refine ⟨_, rfl, by rw [List.length_map]; omega, by rw [List.length_map]; omega, lim (by omega), fun b n2 b0 b1 hn2 => ?_⟩
  rw [List.length_map] at a1 b1
  obtain ⟨a, rfl⟩ := Int.eq_ofNat_of_zero_le a0
  obtain ⟨b, rfl⟩ := Int.eq_ofNat_of_zero_le b0
  have ha : a < kn.length := by omega
  have hb : b < rss.length := by omega
  obtain ⟨k, hk⟩ : ∃ k, kn[a]? = some k := ⟨_, List.getElem?_eq_getElem ha⟩
  obtain ⟨r, hr⟩ : ∃ r, rss[b]? = some r := ⟨_, List.getElem?_eq_getElem hb⟩
  have hk6 := t.kb k (List.mem_of_getElem? hk)
  have hkD : (kn.map D.int)[a]? = some (.int k) := by rw [List.getElem?_map, hk]; rfl
  have hrD : (rss.map rowD)[b]? = some (rowD r) := by rw [List.getElem?_map, hr]; rfl
  have hrl := t.rw r (List.mem_of_getElem? hr)
  have har : a < r.length := by omega
  have hcD : (r.map oD)[a]? = some (oD (r.getD a none)) := row_at har
  refine ⟨_, at_nat (j := a) hkD, ?_⟩
  dsimp only
  rcases Bool.eq_false_or_eq_true (decide (k < 6)) with e6 | e6
  all_goals rw [e6]
  have h6 : k < 6 := of_decide_eq_true e6
  refine ⟨_, at_nat (j := a) hkD, ?_⟩
  refine ⟨kn.map D.int, a, _, rfl, by rw [List.length_map]; omega, by rw [List.length_map]; omega, ?_⟩
  rw [put_set (by rw [List.length_map]; omega)]
  have es : (kn.map D.int).set a (.int (k + 1)) = (kn.set a (k + 1)).map D.int := by rw [List.map_set]
  rw [es]
  refine ⟨T.ic_Table, mk (t.kind hk h6) ?_⟩
  refine ⟨⟨_, _, rfl⟩, ⟨_, _, rfl⟩, kn, rss, _, rfl, .inl ⟨kn.set a (k + 1), rss, rfl, _, rfl, ?_⟩⟩
  rw [decide_eq_false (set_ne hk (by omega)), Bool.false_and]
  all_goals
    dsimp only
    refine ⟨_, at_nat (j := a) hkD, ?_⟩
    refine ⟨k, rfl, by omega, by omega, lim (by omega), fun it m1 i0 i1 hm1 => ?_⟩
    refine ⟨_, at_nat (j := b) hrD, ?_⟩
    refine ⟨_, at_nat (j := a) hcD, ?_⟩
    refine eqP_cell ?_
    rcases Bool.eq_false_or_eq_true (decide (r.getD a none = some it)) with e7 | e7
    all_goals rw [e7]
    rotate_left
    refine ⟨_, at_nat (j := b) hrD, ?_⟩
    refine ⟨r.map oD, a, _, rfl, by rw [List.length_map]; omega, by rw [List.length_map]; omega, ?_⟩
    rw [put_set (by rw [List.length_map]; omega)]
    refine ⟨rss.map rowD, b, _, rfl, by rw [List.length_map]; omega, by rw [List.length_map]; omega, ?_⟩
    rw [put_set (by rw [List.length_map]; omega)]
    have es : (rss.map rowD).set b (.tup ((r.map oD).set a (.int it))) = (rss.set b (r.set a (some it))).map rowD := by
      rw [List.map_set]
      congr 1
      show _ = D.tup ((r.set a (some it)).map oD)
      rw [List.map_set]
      rfl
    rw [es]
    refine ⟨T.ic_Table, mk (t.cell hk hr i0 i1) ?_⟩
    refine ⟨⟨_, _, rfl⟩, ⟨_, _, rfl⟩, kn, rss, _, rfl, .inl ⟨kn, rss.set b (r.set a (some it)), rfl, _, rfl, ?_⟩⟩
    have ner : r[a]? = some (r.getD a none) := by rw [List.getD_eq_getElem?_getD, List.getElem?_eq_getElem har]; rfl
    rw [decide_eq_true rfl, decide_eq_false (set_ne hr (set_ne ner (of_decide_eq_false e7))), Bool.true_and]
    all_goals
      dsimp only
      refine compM_filter (f := fun _ => none) (fun x hx n3 k3 q => ?_) ?_
      · have fin : nx x = true → (∀ C ns ds, x ≠ .ins C ns ds) → ds_Table_eq cs [SV.d (tabD cs.Table (kn.map D.int) (rss.map rowD)), SV.d x] n3 (fun d n3 => ∃ r, d = D.bl r ∧ match r with | true => k3 (some (D.int 1)) n3 | false => k3 none n3) := fun xx ni => ⟨kn, rss, x, rfl, .inr ⟨xx, ni, false, rfl, q⟩⟩
        refine ⟨⟨_, _, rfl⟩, ?_⟩
        simp only [List.mem_cons, List.not_mem_nil, or_false] at hx
        rcases hx with rfl | rfl | rfl | rfl | rfl | rfl | rfl
        · exact ⟨rfl, T.nf_Table "NoneType" (by decide), fin rfl fun _ _ _ z => by cases z⟩
        · exact ⟨rfl, T.nf_Table "int" (by decide), fin rfl fun _ _ _ z => by cases z⟩
        · exact ⟨rfl, T.nf_Table "str" (by decide), fin rfl fun _ _ _ z => by cases z⟩
        · exact ⟨rfl, T.nf_Table "tuple" (by decide), fin (kinds_nx (tab_kinds t)) fun _ _ _ z => by cases z⟩
        · exact ⟨rfl, T.nf_Table "tuple" (by decide), fin (rows_nx (tab_rows t)) fun _ _ _ z => by cases z⟩
        · exact ⟨rfl, T.nf_Table "list" (by decide), fin rfl fun _ _ _ z => by cases z⟩
        · exact ⟨rfl, T.nf_Table "dict" (by decide), fin rfl fun _ _ _ z => by cases z⟩
      · refine nil_nil ?_
        exact p _ (by omega)


theorem sc_law : FnScope ["script", "state", "lap", "scope", "table_here", "bad_here", "rows_full", "row", "item"] ["script"] (defScope s_law) := ⟨rfl, rfl, rfl, by decide +kernel, rfl, by decide +kernel, by decide +kernel⟩
theorem ok_law {f c9 : Addr} {fd : FuncData} (T : Txt K mg cs tk0) (F : FunC K "law" "law" s_law f fd c9) (c_law_begun : Has P w K mg base CX0 1 "_law_begun" ["script"] (spBegun K)) (c_law_wide : Has P w K mg base CX0 3 "_law_wide" ["state"] (sp0 K TT ds_law_wide)) (c_law_made : Has P w K mg base CX0 8 "_law_made" ["scope"] (sp0 K TT (ds_law_made cs))) (c_sorts : Has P w K mg base (L2.CX P w) 2 "sorts" ["table"] (spX K TT (ds_sorts cs))) (c_law_sorts : Has P w K mg base CX0 1 "_law_sorts" ["rows_here"] (sp0 K TT ds_law_sorts)) (c_is_full : Has P w K mg base (L2.CX P w) 2 "is_full" ["table"] (spX K TT (ds_is_full cs))) (c_law_bad_table : Has P w K mg base CX0 3 "_law_bad_table" ["state"] (sp0 K TT ds_law_bad_table)) (c_law_no_table : Has P w K mg base CX0 1 "_law_no_table" ["caught"] (sp0 K TT (ds_law_no_table cs))) (c_law_told : HasG P w K mg base CX0 29 "_law_told" ["state", "scope", "table_here"] (sp0 K TT (ds_law_told cs))) (c_law_equal : Has P w K mg base CX0 8 "_law_equal" ["state", "scope", "table_here"] (sp0 K TT (ds_law_equal cs))) (c_used : HasF P w K mg base (L2.CX P w) 4 "used" s_used ["table", "matter"] (spX K TT (ds_used cs))) (c_law_used : Has P w K mg base CX0 2 "_law_used" ["scope", "spot"] (sp0 K TT ds_law_used)) (DC : DefAt K mg "_law_caught" s_law_caught ["work"]) (MA : MakesAt base mg TT "law.<locals>.<lambda>" c9) : FnG P w K mg base CX0 33 f fd ["script"] (spLaw K TT) := by
  obtain ⟨_, _, c_law_begun_ok, c_law_begun_m, c_law_begun_k, c_law_begun_b⟩ := c_law_begun
  obtain ⟨_, _, c_law_wide_ok, c_law_wide_m, c_law_wide_k, c_law_wide_b⟩ := c_law_wide
  obtain ⟨_, _, c_law_made_ok, c_law_made_m, c_law_made_k, c_law_made_b⟩ := c_law_made
  obtain ⟨_, _, c_sorts_ok, c_sorts_m, c_sorts_k, c_sorts_b⟩ := c_sorts
  obtain ⟨_, _, c_law_sorts_ok, c_law_sorts_m, c_law_sorts_k, c_law_sorts_b⟩ := c_law_sorts
  obtain ⟨_, _, c_is_full_ok, c_is_full_m, c_is_full_k, c_is_full_b⟩ := c_is_full
  obtain ⟨_, _, c_law_bad_table_ok, c_law_bad_table_m, c_law_bad_table_k, c_law_bad_table_b⟩ := c_law_bad_table
  obtain ⟨_, _, c_law_no_table_ok, c_law_no_table_m, c_law_no_table_k, c_law_no_table_b⟩ := c_law_no_table
  obtain ⟨_, _, c_law_told_ok, c_law_told_m, c_law_told_k, c_law_told_b⟩ := c_law_told
  obtain ⟨_, _, c_law_equal_ok, c_law_equal_m, c_law_equal_k, c_law_equal_b⟩ := c_law_equal
  obtain ⟨_, _, c_used_ok, c_used_m, c_used_k, c_used_b, c_used_F⟩ := c_used
  obtain ⟨_, _, c_law_used_ok, c_law_used_m, c_law_used_k, c_law_used_b⟩ := c_law_used
  obtain ⟨oc, od, kV, doc, pm, an, ct, osl, rfl, lk, hcd⟩ := F.ex
  refine ⟨fun vs H Q E h => by obtain ⟨a, ns, rfl, _⟩ := h; rfl, fun A hg hr0 outer s H args us vs Q E h r b e => LamX.run_ofS lk hcd sc_law hr0 e b r (by obtain ⟨a, ns, rfl, _⟩ := h; rfl) fun hr => ?_⟩
  obtain ⟨a, ns, rfl, hS, hl, tabs, q⟩ := h
  refine ⟨_, PSs.nox (X := cxOf CX0 P w K mg base ["script", "state", "lap", "scope", "table_here", "bad_here", "rows_full", "row", "item"] "law" (defScope s_law) f (.ref c9) A outer s H E) ((pss_cons (ps_set (i := 1) sc_law.nd rfl (by first | exact Or.inl rfl | exact Or.inr rfl) (pe_call c_law_begun_ok (hr.mono (by decide)) rfl c_law_begun_m c_law_begun_k c_law_begun_b .nil pass0 (pa_cons (pv 0) pa_nil)))
      (pss_cons (ps_for PassesOwn.never rfl (pi_range1 (by rfl) T.n_range (pa_cons (pe_op op_addU pe_int (pe_callB (call_rMin2 rfl) (by rfl) T.n_min (by decide +kernel) (pa_cons (pe_callB call_lenU (by rfl) T.n_len (by decide +kernel) (pa_cons (pv 0) pa_nil)) (pa_cons pe_int pa_nil)))) pa_nil)) (pg_name (i := 2) sc_law.nd rfl (by first | exact Or.inl rfl | exact Or.inr rfl)) (pss_cons (ps_set (i := 3) sc_law.nd rfl (by first | exact Or.inl rfl | exact Or.inr rfl) (pe_call c_law_wide_ok (hr.mono (by decide)) rfl c_law_wide_m c_law_wide_k c_law_wide_b .nil pass0 (pa_cons (pv 1) pa_nil)))
      (pss_cons (ps_set (i := 4) sc_law.nd rfl (by first | exact Or.inl rfl | exact Or.inr rfl) (pe_call c_law_made_ok (hr.mono (by decide)) rfl c_law_made_m c_law_made_k c_law_made_b .nil pass0 (pa_cons (pv 3) pa_nil)))
      (pss_cons (ps_if (pt_cmpR (op_neU hr.units) (pe_callB (call_repr hg hr.units) (by rfl) T.n_repr (by decide +kernel) (pa_cons (pe_call c_sorts_ok (hr.mono (by decide)) rfl c_sorts_m c_sorts_k c_sorts_b .nil passL (pa_cons (pv 4) pa_nil)) pa_nil)) (pe_callB (call_repr hg hr.units) (by rfl) T.n_repr (by decide +kernel) (pa_cons (pe_call c_law_sorts_ok (hr.mono (by decide)) rfl c_law_sorts_m c_law_sorts_k c_law_sorts_b .nil pass0 (pa_cons (pe_dget (hu_of hr) (pv 3) pe_str (fun _ _ => rfl)) pa_nil)) pa_nil)) (nomark _)) (pss_one (ps_ret pe_bl)) pss_nil)
      (pss_cons (ps_if (pt_cmpR (op_neU hr.units) (pe_callB (call_repr hg hr.units) (by rfl) T.n_repr (by decide +kernel) (pa_cons (pe_call c_is_full_ok (hr.mono (by decide)) rfl c_is_full_m c_is_full_k c_is_full_b .nil passL (pa_cons (pv 4) pa_nil)) pa_nil)) (pe_callB (call_repr hg hr.units) (by rfl) T.n_repr (by decide +kernel) (pa_cons (pe_cmpR (op_eqU hr.units) (pe_lc (own := [("row", 7)]) (g := gName 7) rfl sc_law.nd (pi_tup (pe_dget (hu_of hr) (pv 3) pe_str (fun _ _ => rfl))) (blkOk_by (N := ["script", "state", "lap", "scope", "table_here", "bad_here", "rows_full", "row", "item"]) (own := [("row", 7)]) (sc := defScope s_law) (by decide +kernel)) (fun _ _ _ _ _ => (pg_name (i := 7) sc_law.nd rfl (by first | exact Or.inl rfl | exact Or.inr rfl))) (fun _ _ _ _ _ => (pts_one (pt_cmpR (SCo.op_inT hr) pe_non (pv 7) (by with_unfolding_all rfl)))) (fun _ _ _ _ _ => pe_int)) (pe_lst pa_nil) (nomark _)) pa_nil)) (nomark _)) (pss_one (ps_ret pe_bl)) pss_nil)
      (pss_cons (ps_set (i := 5) sc_law.nd rfl (by first | exact Or.inl rfl | exact Or.inr rfl) (pe_call c_law_bad_table_ok (hr.mono (by decide)) rfl c_law_bad_table_m c_law_bad_table_k c_law_bad_table_b .nil pass0 (pa_cons (pv 1) pa_nil)))
      (pss_cons (ps_if (pt_not (pt_val (pe_call c_law_no_table_ok (hr.mono (by decide)) rfl c_law_no_table_m c_law_no_table_k c_law_no_table_b .nil pass0 (pa_cons (lam_call (k := 30) DC sc_law_caught (fun g cdg => caught_gives rfl T.g_FoundError rfl rfl rfl) MA rfl (hr.mono (by decide)) (LamX.lamS_by (sc := defScope s_law) (by decide +kernel)) rfl rfl (fun _ _ _ _ _ => rfl) (fun A9 outer9 s9 H9 E9 f9 c9 hr => (pe_call c_sorts_ok (hr.mono (by decide)) rfl c_sorts_m c_sorts_k c_sorts_b .nil (passes_call (takes_of rfl rfl rfl rfl) (fun _ _ _ _ h => h)) (pa_cons (pv 5) pa_nil)))) pa_nil)))) (pss_one (ps_ret pe_bl)) pss_nil)
      (pss_cons (ps_if (pt_not (pt_val (pe_call c_law_no_table_ok (hr.mono (by decide)) rfl c_law_no_table_m c_law_no_table_k c_law_no_table_b .nil pass0 (pa_cons (lam_call (k := 30) DC sc_law_caught (fun g cdg => caught_gives rfl T.g_FoundError rfl rfl rfl) MA rfl (hr.mono (by decide)) (LamX.lamS_by (sc := defScope s_law) (by decide +kernel)) rfl rfl (fun _ _ _ _ _ => rfl) (fun A9 outer9 s9 H9 E9 f9 c9 hr => (pe_call c_is_full_ok (hr.mono (by decide)) rfl c_is_full_m c_is_full_k c_is_full_b .nil (passes_call (takes_of rfl rfl rfl rfl) (fun _ _ _ _ h => h)) (pa_cons (pv 5) pa_nil)))) pa_nil)))) (pss_one (ps_ret pe_bl)) pss_nil)
      (pss_cons (ps_if (PW.pt (pw_or (pt_not (pt_val (pe_callG c_law_told_ok hg (hr.mono (by decide)) rfl c_law_told_m c_law_told_k c_law_told_b .nil pass0 (pa_cons (pv 1) (pa_cons (pv 3) (pa_cons (pv 4) pa_nil)))))) (pw_or1 (pt_not (pt_val (pe_call c_law_equal_ok (hr.mono (by decide)) rfl c_law_equal_m c_law_equal_k c_law_equal_b .nil pass0 (pa_cons (pv 1) (pa_cons (pv 3) (pa_cons (pv 4) pa_nil))))))))) (pss_one (ps_ret pe_bl)) pss_nil)
      (pss_cons (ps_set (i := 6) sc_law.nd rfl (by first | exact Or.inl rfl | exact Or.inr rfl) (pe_callTy call_tupU (by rfl) T.n_tuple (by decide +kernel) (pa_cons (pe_lc (own := [("row", 7)]) (g := gName 7) rfl sc_law.nd (pi_tup (pe_dget (hu_of hr) (pv 3) pe_str (fun _ _ => rfl))) (blkOk_by (N := ["script", "state", "lap", "scope", "table_here", "bad_here", "rows_full", "row", "item"]) (own := [("row", 7)]) (sc := defScope s_law) (by decide +kernel)) (fun _ _ _ _ _ => (pg_name (i := 7) sc_law.nd rfl (by first | exact Or.inl rfl | exact Or.inr rfl))) (fun _ _ _ _ _ => pts_nil) (fun _ _ _ _ _ => (pe_callTy call_tupU (by rfl) T.n_tuple (by decide +kernel) (pa_cons (pe_lc (own := [("item", 8)]) (g := gName 8) rfl sc_law.nd (pi_tup (pv 7)) (blkOk_by (N := ["script", "state", "lap", "scope", "table_here", "bad_here", "rows_full", "row", "item"]) (own := [("item", 8)]) (by rfl)) (fun _ _ _ _ _ => (pg_name (i := 8) sc_law.nd rfl (by first | exact Or.inl rfl | exact Or.inr rfl))) (fun _ _ _ _ _ => pts_nil) (fun _ _ _ _ _ => (SCo.pe_orA (pv 8) (pe_one pe_int)))) pa_nil)))) pa_nil)))
      (pss_cons (ps_if (pt_cmpR SCo.op_notB (pe_call c_is_full_ok (hr.mono (by decide)) rfl c_is_full_m c_is_full_k c_is_full_b .nil passL (pa_cons (pe_call c_law_made_ok (hr.mono (by decide)) rfl c_law_made_m c_law_made_k c_law_made_b .nil pass0 (pa_cons (pe_disp (pps_cons pe_str (pe_dget (hu_of hr) (pv 3) pe_str (fun _ _ => rfl)) (pps_cons pe_str (pv 6) pps_nil)) (by rfl) (by rfl) (fun z => by cases z) (by decide)) pa_nil)) pa_nil)) pe_bl (nomark _)) (pss_one (ps_ret pe_bl)) pss_nil)
      (pss_one (ps_if (pt_cmpR (op_neU hr.units) (pe_callB (call_repr hg hr.units) (by rfl) T.n_repr (by decide +kernel) (pa_cons (pe_callN0 c_used_ok (hr.mono (by decide)) rfl c_used_m c_used_k (kbn_of (n := 0) (ks := ["matter", "table"]) (ix := [1, 0]) c_used_F (fun _ _ _ _ _ _ us ws h1 h2 => match us, ws, h1, h2 with | [], [_, _], _, _ => rfl)) passL (pk_cons pe_int (pk_cons (pv 4) pk_nil))) pa_nil)) (pe_callB (call_repr hg hr.units) (by rfl) T.n_repr (by decide +kernel) (pa_cons (pe_callTy call_tupU (by rfl) T.n_tuple (by decide +kernel) (pa_cons (pe_call c_law_used_ok (hr.mono (by decide)) rfl c_law_used_m c_law_used_k c_law_used_b .nil pass0 (pa_cons (pv 3) (pa_cons pe_int pa_nil))) pa_nil)) pa_nil)) (nomark _)) (pss_one (ps_ret pe_bl)) pss_nil)))))))))))))
      (pss_one (ps_ret pe_bl))))), law_body (by decide) hS hl tabs q fun S => ⟨_, (rds_seq (rds_for (rdi_range1 (rda_cons (rd_op o2_add rd_int (rd_cb cal_min2 (rda_cons (rd_cb cal_len (rda_cons (rd_var (i := 0)) rda_nil)) (rda_cons rd_int rda_nil)))) rda_nil)) (rdg_name (vs := [2]) (by decide)) (rds_seq (rds_set (rd_call0 (E := E0) (rda_st (i := 1) rda_nil)))
      (rds_seq (rds_set (rd_call0 (E := E0) (rda_cons (rd_var (i := 3)) rda_nil)))
      (rds_seq (rds_if (rdt_test (rd_op o2_ne (rd_cb cal_repr (rda_cons (rd_callN (rda_cons (rd_var (i := 4)) rda_nil)) rda_nil)) (rd_cb cal_repr (rda_cons (rd_call0 (E := E0) (rda_cons (rd_dget (rd_var (i := 3)) rd_str) rda_nil)) rda_nil)))) (rds_ret rd_bl) rds_next)
      (rds_seq (rds_if (rdt_test (rd_op o2_ne (rd_cb cal_repr (rda_cons (rd_callN (rda_cons (rd_var (i := 4)) rda_nil)) rda_nil)) (rd_cb cal_repr (rda_cons (rd_op o2_eq (rd_lc (rdj_of (rdi_tup (rd_dget (rd_var (i := 3)) rd_str))) (rdg_name (vs := [7]) (by decide)) (rdt_test (rd_op o2_inT rd_non (rd_var (i := 7)))) rd_int) (rd_lst rda_nil)) rda_nil)))) (rds_ret rd_bl) rds_next)
      (rds_seq (rds_set (rd_call0 (E := E0) (rda_st (i := 1) rda_nil)))
      (rds_seq (rds_if (rdt_not (rdt_B (rd_call0 (E := E0) (rda_cons (rd_lam fun _ => (rd_callX (rda_cons (rd_var (i := 5)) rda_nil))) rda_nil)))) (rds_ret rd_bl) rds_next)
      (rds_seq (rds_if (rdt_not (rdt_B (rd_call0 (E := E0) (rda_cons (rd_lam fun _ => (rd_callX (rda_cons (rd_var (i := 5)) rda_nil))) rda_nil)))) (rds_ret rd_bl) rds_next)
      (rds_seq (rds_if (rdt_or (rdt_not (rdt_B (rd_call0 (E := E0) (rda_st (i := 1) (rda_cons (rd_var (i := 3)) (rda_cons (rd_var (i := 4)) rda_nil)))))) (rdt_not (rdt_B (rd_call0 (E := E0) (rda_st (i := 1) (rda_cons (rd_var (i := 3)) (rda_cons (rd_var (i := 4)) rda_nil))))))) (rds_ret rd_bl) rds_next)
      (rds_seq (rds_set (rd_cb cal_tuple (rda_cons (rd_lc (rdj_of (rdi_tup (rd_dget (rd_var (i := 3)) rd_str))) (rdg_name (vs := [7]) (by decide)) rdt_yes (rd_cb cal_tuple (rda_cons (rd_lc (rdj_of (rdi_tup (rd_var (i := 7)))) (rdg_name (vs := [8]) (by decide)) rdt_yes (rd_orA (rd_var (i := 8)) rd_int)) rda_nil))) rda_nil)))
      (rds_seq (rds_if (rdt_test (rd_op o2_notB (rd_callN (rda_cons (rd_call0 (E := E0) (rda_cons (rd_disp (.cons rd_str (rd_dget (rd_var (i := 3)) rd_str) (.cons rd_str (rd_var (i := 6)) .nil))) rda_nil)) rda_nil)) rd_bl)) (rds_ret rd_bl) rds_next)
      (rds_if (rdt_test (rd_op o2_ne (rd_cb cal_repr (rda_cons (rd_callKwN (E' := E0) (D0 := dsX (ds_used cs)) (ix := [1, 0]) rda_nil (rda_cons rd_int (rda_cons (rd_var (i := 4)) rda_nil))) rda_nil)) (rd_cb cal_repr (rda_cons (rd_cb cal_tuple (rda_cons (rd_call0 (E := E0) (rda_cons (rd_var (i := 3)) (rda_cons rd_int rda_nil))) rda_nil)) rda_nil)))) (rds_ret rd_bl) rds_next))))))))))))
      (rds_ret rd_bl)), ?_⟩⟩
  walk_at "dl"
  obtain ⟨m, hm, hm2⟩ : ∃ m : Nat, ((1 : Int) + if 5 < ((List.map D.int ns).length : Int) then 5 else ((List.map D.int ns).length : Int)) = (m : Int) ∧ m ≤ 6 := by
    refine ⟨1 + min ns.length 5, ?_, by omega⟩
    rw [List.length_map]
    split <;> omega
  rw [hm]
  refine ⟨by omega, by omega, fun i ρ n => n ≤ 12000 * i ∧ ∃ (u2 u3 u4 u5 u6 u7 u8 : SV), ρ = [.d (.lst (ns.map D.int)), .st, u2, u3, u4, u5, u6, u7, u8], ⟨by omega, _, _, _, _, _, _, _, rfl⟩, ?_, ?_⟩
  · rintro i x ρ n hx ⟨hn, u2, u3, u4, u5, u6, u7, u8, rfl⟩
    obtain ⟨hi, rfl⟩ := range_get hx
    clear hx hm
    walk_at "dl"
    refine ⟨rfl, lim (by omega), fun ks rs n1 h1 nk nr gk gr => ?_⟩
    obtain ⟨kn, rss, rfl, rfl, t⟩ := tab_form gk gr
    have kl := t.kl
    have rl := t.rl
    refine ⟨_, _, rfl, nk, nr, gk, gr, ?_⟩
    obtain ⟨so1, so2⟩ := sortsL_ok rl.2
    obtain ⟨pd, p1, p2⟩ := ok_ttN so1 so2
    refine ⟨_, rfl, .inl ⟨kn, rss, rfl, t, ?_⟩⟩
    refine ⟨pd, p1, p2, _, vd_r, ?_⟩
    refine ⟨kn, rss, rfl, t, ?_⟩
    refine ⟨pd, p1, p2, ?_⟩
    show eqP not (.str pd.shown) (.str pd.shown) _
    rw [eqP_str, decide_eq_true rfl]
    refine ⟨_, rfl, .inl ⟨kn, rss, rfl, t, ?_⟩⟩
    obtain ⟨b1, b2⟩ : (∃ q, toP (.bl (fullB rss)) = some q ∧ okR q ∧ q = .bool (fullB rss)) ∧ True := ⟨⟨_, rfl, okR_bool _, rfl⟩, trivial⟩
    refine ⟨.bool (fullB rss), rfl, okR_bool _, _, vd_r, ?_⟩
    show _ ∧ _
    refine ⟨by rw [List.length_map]; omega, compM_filter (f := nilF) (fun x hx n2 k q => ?_) ?_⟩
    · obtain ⟨r, hr, rfl⟩ := List.mem_map.mp hx
      refine ⟨.none, rfl, r.map oP, toP_row r, by decide, shaped_row r, ?_⟩
      have e := any_none r
      unfold nilF at q
      rw [fullD_row, ← e] at q
      cases h : (r.map oP).any fun z => z.eqv .none with
      | true => rw [h] at q; exact q
      | false => rw [h] at q; exact q
    rw [nilF_map]
    refine eqP_intsLN (b := []) ?_
    rw [nilL_full]
    refine ⟨.bool (fullB rss), rfl, okR_bool _, ?_⟩
    show eqP not (.str _) (.str _) _
    rw [eqP_str, decide_eq_true rfl]
    refine ⟨rfl, lim (by omega), fun bd n2 hn2 xbd nibd => ?_⟩
    refine ⟨_, rfl, .inr ⟨xbd, nibd, T.r_BadTable, rfl, ?_⟩⟩
    refine ⟨_, rfl, .inr ⟨xbd, nibd, T.r_BadTable, rfl, ?_⟩⟩
    refine ⟨kn, rss, rfl, t, lim (by omega), fun n3 hn3 => ?_⟩
    refine ⟨kn, rss, rfl, t, lim (by omega), fun n4 hn4 => ?_⟩
    refine ⟨_, vd_r, ?_⟩
    show _ ∧ _
    refine ⟨by rw [List.length_map]; omega, compM_map (f := zeroR) (fun x hx n5 k q => ?_) ?_⟩
    · obtain ⟨r, hr, rfl⟩ := List.mem_map.mp hx
      have hrl := t.rw r hr
      unfold zeroR at q
      rw [rowO_row] at q
      show _ ∧ _
      refine ⟨by rw [List.length_map]; omega, compM_map (f := zeroD) (fun y hy n6 k2 q2 => ?_) ?_⟩
      · obtain ⟨o, ho, rfl⟩ := List.mem_map.mp hy
        cases o with
        | none => exact q2
        | some c =>
          show (if c = 0 then _ else _)
          by_cases e : c = 0
          · rw [if_pos e]
            subst e
            exact q2
          · rw [if_neg e]
            exact q2
      · rw [zeroD_map]
        exact q
    rw [zeroR_map]
    have t0 := t.zero
    refine ⟨_, vd_k, by decide, ?_⟩
    refine ⟨_, _, rfl, kinds_nx (tab_kinds t0), rows_nx (tab_rows t0), tab_kinds t0, tab_rows t0, ?_⟩
    refine ⟨_, rfl, .inl ⟨kn, _, rfl, t0, ?_⟩⟩
    rw [zero_full]
    dsimp only
    have inb : betw 0 ((kn.length : Int) - 1) (.int 0) = true := by simp only [betw, Bool.and_eq_true, decide_eq_true_eq]; omega
    obtain ⟨us, hu⟩ := used_ex rss 0
    obtain ⟨ul, u1, ur⟩ := used_range t (by omega) hu
    obtain ⟨qd, q1, q2⟩ := ok_intsN (xs := us) (by omega) fun x hx => by have := ur x hx; omega
    refine ⟨_, _, rfl, rfl, .inr ⟨kn, rss, rfl, t, (fun hb => by rw [inb] at hb; cases hb), fun m2 em hm3 us2 hu2 => ?_⟩⟩
    obtain rfl : 0 = m2 := by have := D.int.inj em; omega
    obtain rfl := used_one hu2 hu
    refine ⟨qd, q1, q2, ?_⟩
    refine ⟨kn, rss, 0, rfl, t, hm3, fun us3 hu3 => ?_⟩
    obtain rfl := used_one hu3 hu2
    refine ⟨qd, q1, q2, ?_⟩
    show eqP not (.str qd.shown) (.str qd.shown) _
    rw [eqP_str, decide_eq_true rfl]
    exact ⟨by omega, _, _, _, _, _, _, _, rfl⟩
  · exact fun _ _ _ => trivial

end
end Lw
namespace Lw
open L2 PySem DL
open He (ga ma fAd cT)
theorem facts {w : PySem.World} {h : Heap} {K : PySem.W.Frag} {mg : Str → Option Value} {fa : Addr} (X : K.In h) (G : h.Ns mainGlobals mg) (hfa : mg ("law" : Str) = some (.ref fa)) (c : He.SaysX fcs dfs [] tfd exs w h K) : LawG PySem.Challenge.rw_oncefound_k01_what_a_table_tells w K CX0 35 63 "script" mg fa h := by
  have d := c.t.d
  obtain ⟨fd_is_number, F_is_number⟩ := d.def_ 0 (d := ⟨("is_number", none), "is_number", "is_number", defArgs s_is_number, defBody s_is_number, defScope s_is_number, [], []⟩) rfl
  have g_is_number : mg "is_number" = some (.ref (ga K "is_number")) := He.glo_ok X G (d.fact 25 (f := .glo "is_number") rfl)
  have L_is_number : L2.Fun K "is_number" "is_number" s_is_number (fAd K ("is_number", none)) fd_is_number := He5.fun_of F_is_number
  have B_is_number : Binds K fd_is_number ["thing"] [] := L_is_number.binds fun _ _ _ _ _ _ us hl => match us, hl with | [_], _ => rfl
  obtain ⟨fd_is_between, F_is_between⟩ := d.def_ 1 (d := ⟨("is_between", none), "is_between", "is_between", defArgs s_is_between, defBody s_is_between, defScope s_is_between, [], []⟩) rfl
  have g_is_between : mg "is_between" = some (.ref (ga K "is_between")) := He.glo_ok X G (d.fact 26 (f := .glo "is_between") rfl)
  have L_is_between : L2.Fun K "is_between" "is_between" s_is_between (fAd K ("is_between", none)) fd_is_between := He5.fun_of F_is_between
  have B_is_between : Binds K fd_is_between ["thing", "low", "high"] [] := L_is_between.binds fun _ _ _ _ _ _ us hl => match us, hl with | [_, _, _], _ => rfl
  obtain ⟨fd_is_kind, F_is_kind⟩ := d.def_ 2 (d := ⟨("is_kind", none), "is_kind", "is_kind", defArgs s_is_kind, defBody s_is_kind, defScope s_is_kind, [], []⟩) rfl
  have g_is_kind : mg "is_kind" = some (.ref (ga K "is_kind")) := He.glo_ok X G (d.fact 27 (f := .glo "is_kind") rfl)
  have L_is_kind : L2.Fun K "is_kind" "is_kind" s_is_kind (fAd K ("is_kind", none)) fd_is_kind := He5.fun_of F_is_kind
  have B_is_kind : Binds K fd_is_kind ["thing"] [] := L_is_kind.binds fun _ _ _ _ _ _ us hl => match us, hl with | [_], _ => rfl
  obtain ⟨fd_are_kinds, F_are_kinds⟩ := d.def_ 3 (d := ⟨("_are_kinds", none), "_are_kinds", "_are_kinds", defArgs s_are_kinds, defBody s_are_kinds, defScope s_are_kinds, [], []⟩) rfl
  have g_are_kinds : mg "_are_kinds" = some (.ref (ga K "_are_kinds")) := He.glo_ok X G (d.fact 28 (f := .glo "_are_kinds") rfl)
  have L_are_kinds : L2.Fun K "_are_kinds" "_are_kinds" s_are_kinds (fAd K ("_are_kinds", none)) fd_are_kinds := He5.fun_of F_are_kinds
  have B_are_kinds : Binds K fd_are_kinds ["thing"] [] := L_are_kinds.binds fun _ _ _ _ _ _ us hl => match us, hl with | [_], _ => rfl
  obtain ⟨fd_is_cell, F_is_cell⟩ := d.def_ 4 (d := ⟨("is_cell", none), "is_cell", "is_cell", defArgs s_is_cell, defBody s_is_cell, defScope s_is_cell, [], []⟩) rfl
  have g_is_cell : mg "is_cell" = some (.ref (ga K "is_cell")) := He.glo_ok X G (d.fact 29 (f := .glo "is_cell") rfl)
  have L_is_cell : L2.Fun K "is_cell" "is_cell" s_is_cell (fAd K ("is_cell", none)) fd_is_cell := He5.fun_of F_is_cell
  have B_is_cell : Binds K fd_is_cell ["kind", "thing"] [] := L_is_cell.binds fun _ _ _ _ _ _ us hl => match us, hl with | [_, _], _ => rfl
  obtain ⟨fd_is_row_for, F_is_row_for⟩ := d.def_ 5 (d := ⟨("_is_row_for", none), "_is_row_for", "_is_row_for", defArgs s_is_row_for, defBody s_is_row_for, defScope s_is_row_for, [], []⟩) rfl
  have g_is_row_for : mg "_is_row_for" = some (.ref (ga K "_is_row_for")) := He.glo_ok X G (d.fact 30 (f := .glo "_is_row_for") rfl)
  have L_is_row_for : L2.Fun K "_is_row_for" "_is_row_for" s_is_row_for (fAd K ("_is_row_for", none)) fd_is_row_for := He5.fun_of F_is_row_for
  have B_is_row_for : Binds K fd_is_row_for ["kinds", "thing"] [] := L_is_row_for.binds fun _ _ _ _ _ _ us hl => match us, hl with | [_, _], _ => rfl
  obtain ⟨fd_first_unread, F_first_unread⟩ := d.def_ 6 (d := ⟨("first_unread", none), "first_unread", "first_unread", defArgs s_first_unread, defBody s_first_unread, defScope s_first_unread, [], []⟩) rfl
  have g_first_unread : mg "first_unread" = some (.ref (ga K "first_unread")) := He.glo_ok X G (d.fact 31 (f := .glo "first_unread") rfl)
  have L_first_unread : L2.Fun K "first_unread" "first_unread" s_first_unread (fAd K ("first_unread", none)) fd_first_unread := He5.fun_of F_first_unread
  have B_first_unread : Binds K fd_first_unread ["rows"] [] := L_first_unread.binds fun _ _ _ _ _ _ us hl => match us, hl with | [_], _ => rfl
  obtain ⟨fd_are_rows, F_are_rows⟩ := d.def_ 7 (d := ⟨("_are_rows", none), "_are_rows", "_are_rows", defArgs s_are_rows, defBody s_are_rows, defScope s_are_rows, [], []⟩) rfl
  have g_are_rows : mg "_are_rows" = some (.ref (ga K "_are_rows")) := He.glo_ok X G (d.fact 32 (f := .glo "_are_rows") rfl)
  have L_are_rows : L2.Fun K "_are_rows" "_are_rows" s_are_rows (fAd K ("_are_rows", none)) fd_are_rows := He5.fun_of F_are_rows
  have B_are_rows : Binds K fd_are_rows ["kinds", "thing"] [] := L_are_rows.binds fun _ _ _ _ _ _ us hl => match us, hl with | [_, _], _ => rfl
  obtain ⟨fd_law_put, F_law_put⟩ := d.def_ 8 (d := ⟨("_law_put", none), "_law_put", "_law_put", defArgs s_law_put, defBody s_law_put, defScope s_law_put, [], []⟩) rfl
  have g_law_put : mg "_law_put" = some (.ref (ga K "_law_put")) := He.glo_ok X G (d.fact 33 (f := .glo "_law_put") rfl)
  have L_law_put : L2.Fun K "_law_put" "_law_put" s_law_put (fAd K ("_law_put", none)) fd_law_put := He5.fun_of F_law_put
  have B_law_put : Binds K fd_law_put ["row", "spot", "item"] [] := L_law_put.binds fun _ _ _ _ _ _ us hl => match us, hl with | [_, _, _], _ => rfl
  obtain ⟨fd_law_draw, F_law_draw⟩ := d.def_ 9 (d := ⟨("_law_draw", none), "_law_draw", "_law_draw", defArgs s_law_draw, defBody s_law_draw, defScope s_law_draw, [], []⟩) rfl
  have g_law_draw : mg "_law_draw" = some (.ref (ga K "_law_draw")) := He.glo_ok X G (d.fact 34 (f := .glo "_law_draw") rfl)
  have L_law_draw : L2.Fun K "_law_draw" "_law_draw" s_law_draw (fAd K ("_law_draw", none)) fd_law_draw := He5.fun_of F_law_draw
  have B_law_draw : Binds K fd_law_draw ["state", "size_here"] [] := L_law_draw.binds fun _ _ _ _ _ _ us hl => match us, hl with | [_, _], _ => rfl
  obtain ⟨fd_law_pick, F_law_pick⟩ := d.def_ 10 (d := ⟨("_law_pick", none), "_law_pick", "_law_pick", defArgs s_law_pick, defBody s_law_pick, defScope s_law_pick, [], []⟩) rfl
  have g_law_pick : mg "_law_pick" = some (.ref (ga K "_law_pick")) := He.glo_ok X G (d.fact 35 (f := .glo "_law_pick") rfl)
  have L_law_pick : L2.Fun K "_law_pick" "_law_pick" s_law_pick (fAd K ("_law_pick", none)) fd_law_pick := He5.fun_of F_law_pick
  have B_law_pick : Binds K fd_law_pick ["state", "several"] [] := L_law_pick.binds fun _ _ _ _ _ _ us hl => match us, hl with | [_, _], _ => rfl
  obtain ⟨fd_law_bad_table, F_law_bad_table⟩ := d.def_ 11 (d := ⟨("_law_bad_table", none), "_law_bad_table", "_law_bad_table", defArgs s_law_bad_table, defBody s_law_bad_table, defScope s_law_bad_table, [], []⟩) rfl
  have g_law_bad_table : mg "_law_bad_table" = some (.ref (ga K "_law_bad_table")) := He.glo_ok X G (d.fact 36 (f := .glo "_law_bad_table") rfl)
  have L_law_bad_table : L2.Fun K "_law_bad_table" "_law_bad_table" s_law_bad_table (fAd K ("_law_bad_table", none)) fd_law_bad_table := He5.fun_of F_law_bad_table
  have B_law_bad_table : Binds K fd_law_bad_table ["state"] [] := L_law_bad_table.binds fun _ _ _ _ _ _ us hl => match us, hl with | [_], _ => rfl
  obtain ⟨fd_law_cell, F_law_cell⟩ := d.def_ 12 (d := ⟨("_law_cell", none), "_law_cell", "_law_cell", defArgs s_law_cell, defBody s_law_cell, defScope s_law_cell, [], []⟩) rfl
  have g_law_cell : mg "_law_cell" = some (.ref (ga K "_law_cell")) := He.glo_ok X G (d.fact 37 (f := .glo "_law_cell") rfl)
  have L_law_cell : L2.Fun K "_law_cell" "_law_cell" s_law_cell (fAd K ("_law_cell", none)) fd_law_cell := He5.fun_of F_law_cell
  have B_law_cell : Binds K fd_law_cell ["state", "size_here"] [] := L_law_cell.binds fun _ _ _ _ _ _ us hl => match us, hl with | [_, _], _ => rfl
  obtain ⟨fd_Table_init, F_Table_init⟩ := d.def_ 13 (d := ⟨("Table", some "__init__"), "__init__", "Table.__init__", defArgs s_Table_init, defBody s_Table_init, defScope s_Table_init, [], []⟩) rfl
  have L_Table_init : L2.Fun K "__init__" "Table.__init__" s_Table_init (fAd K ("Table", some "__init__")) fd_Table_init := He5.fun_of F_Table_init
  have B_Table_init : Binds K fd_Table_init ["self", "kinds", "rows"] [] := L_Table_init.binds fun _ _ _ _ _ _ us hl => match us, hl with | [_, _, _], _ => rfl
  obtain ⟨fd_check_table, F_check_table⟩ := d.def_ 14 (d := ⟨("check_table", none), "check_table", "check_table", defArgs s_check_table, defBody s_check_table, defScope s_check_table, [], []⟩) rfl
  have g_check_table : mg "check_table" = some (.ref (ga K "check_table")) := He.glo_ok X G (d.fact 38 (f := .glo "check_table") rfl)
  have L_check_table : L2.Fun K "check_table" "check_table" s_check_table (fAd K ("check_table", none)) fd_check_table := He5.fun_of F_check_table
  have B_check_table : Binds K fd_check_table ["table"] [] := L_check_table.binds fun _ _ _ _ _ _ us hl => match us, hl with | [_], _ => rfl
  obtain ⟨fd_law_made, F_law_made⟩ := d.def_ 15 (d := ⟨("_law_made", none), "_law_made", "_law_made", defArgs s_law_made, defBody s_law_made, defScope s_law_made, [], []⟩) rfl
  have g_law_made : mg "_law_made" = some (.ref (ga K "_law_made")) := He.glo_ok X G (d.fact 39 (f := .glo "_law_made") rfl)
  have L_law_made : L2.Fun K "_law_made" "_law_made" s_law_made (fAd K ("_law_made", none)) fd_law_made := He5.fun_of F_law_made
  have B_law_made : Binds K fd_law_made ["scope"] [] := L_law_made.binds fun _ _ _ _ _ _ us hl => match us, hl with | [_], _ => rfl
  obtain ⟨fd_law_no_table, F_law_no_table⟩ := d.def_ 16 (d := ⟨("_law_no_table", none), "_law_no_table", "_law_no_table", defArgs s_law_no_table, defBody s_law_no_table, defScope s_law_no_table, [], []⟩) rfl
  have g_law_no_table : mg "_law_no_table" = some (.ref (ga K "_law_no_table")) := He.glo_ok X G (d.fact 40 (f := .glo "_law_no_table") rfl)
  have L_law_no_table : L2.Fun K "_law_no_table" "_law_no_table" s_law_no_table (fAd K ("_law_no_table", none)) fd_law_no_table := He5.fun_of F_law_no_table
  have B_law_no_table : Binds K fd_law_no_table ["caught"] [] := L_law_no_table.binds fun _ _ _ _ _ _ us hl => match us, hl with | [_], _ => rfl
  obtain ⟨fd_law_wide, F_law_wide⟩ := d.def_ 17 (d := ⟨("_law_wide", none), "_law_wide", "_law_wide", defArgs s_law_wide, defBody s_law_wide, defScope s_law_wide, [], []⟩) rfl
  have g_law_wide : mg "_law_wide" = some (.ref (ga K "_law_wide")) := He.glo_ok X G (d.fact 41 (f := .glo "_law_wide") rfl)
  have L_law_wide : L2.Fun K "_law_wide" "_law_wide" s_law_wide (fAd K ("_law_wide", none)) fd_law_wide := He5.fun_of F_law_wide
  have B_law_wide : Binds K fd_law_wide ["state"] [] := L_law_wide.binds fun _ _ _ _ _ _ us hl => match us, hl with | [_], _ => rfl
  obtain ⟨fd_law_begun, F_law_begun⟩ := d.def_ 18 (d := ⟨("_law_begun", none), "_law_begun", "_law_begun", defArgs s_law_begun, defBody s_law_begun, defScope s_law_begun, [], []⟩) rfl
  have g_law_begun : mg "_law_begun" = some (.ref (ga K "_law_begun")) := He.glo_ok X G (d.fact 42 (f := .glo "_law_begun") rfl)
  have L_law_begun : L2.Fun K "_law_begun" "_law_begun" s_law_begun (fAd K ("_law_begun", none)) fd_law_begun := He5.fun_of F_law_begun
  have B_law_begun : Binds K fd_law_begun ["script"] [] := L_law_begun.binds fun _ _ _ _ _ _ us hl => match us, hl with | [_], _ => rfl
  obtain ⟨fd_law_refused, F_law_refused⟩ := d.def_ 19 (d := ⟨("_law_refused", none), "_law_refused", "_law_refused", defArgs s_law_refused, defBody s_law_refused, defScope s_law_refused, [], []⟩) rfl
  have g_law_refused : mg "_law_refused" = some (.ref (ga K "_law_refused")) := He.glo_ok X G (d.fact 43 (f := .glo "_law_refused") rfl)
  have L_law_refused : L2.Fun K "_law_refused" "_law_refused" s_law_refused (fAd K ("_law_refused", none)) fd_law_refused := He5.fun_of F_law_refused
  have B_law_refused : Binds K fd_law_refused ["state", "work", "args", "bads"] [] := L_law_refused.binds fun _ _ _ _ _ _ us hl => match us, hl with | [_, _, _, _], _ => rfl
  obtain ⟨fd_law_no_matter, F_law_no_matter⟩ := d.def_ 20 (d := ⟨("_law_no_matter", none), "_law_no_matter", "_law_no_matter", defArgs s_law_no_matter, defBody s_law_no_matter, defScope s_law_no_matter, [], []⟩) rfl
  have g_law_no_matter : mg "_law_no_matter" = some (.ref (ga K "_law_no_matter")) := He.glo_ok X G (d.fact 44 (f := .glo "_law_no_matter") rfl)
  have L_law_no_matter : L2.Fun K "_law_no_matter" "_law_no_matter" s_law_no_matter (fAd K ("_law_no_matter", none)) fd_law_no_matter := He5.fun_of F_law_no_matter
  have B_law_no_matter : Binds K fd_law_no_matter ["caught"] [] := L_law_no_matter.binds fun _ _ _ _ _ _ us hl => match us, hl with | [_], _ => rfl
  obtain ⟨fd_law_no_custom, F_law_no_custom⟩ := d.def_ 21 (d := ⟨("_law_no_custom", none), "_law_no_custom", "_law_no_custom", defArgs s_law_no_custom, defBody s_law_no_custom, defScope s_law_no_custom, [], []⟩) rfl
  have g_law_no_custom : mg "_law_no_custom" = some (.ref (ga K "_law_no_custom")) := He.glo_ok X G (d.fact 45 (f := .glo "_law_no_custom") rfl)
  have L_law_no_custom : L2.Fun K "_law_no_custom" "_law_no_custom" s_law_no_custom (fAd K ("_law_no_custom", none)) fd_law_no_custom := He5.fun_of F_law_no_custom
  have B_law_no_custom : Binds K fd_law_no_custom ["caught"] [] := L_law_no_custom.binds fun _ _ _ _ _ _ us hl => match us, hl with | [_], _ => rfl
  obtain ⟨fd_law_bad_number, F_law_bad_number⟩ := d.def_ 22 (d := ⟨("_law_bad_number", none), "_law_bad_number", "_law_bad_number", defArgs s_law_bad_number, defBody s_law_bad_number, defScope s_law_bad_number, [], []⟩) rfl
  have g_law_bad_number : mg "_law_bad_number" = some (.ref (ga K "_law_bad_number")) := He.glo_ok X G (d.fact 46 (f := .glo "_law_bad_number") rfl)
  have L_law_bad_number : L2.Fun K "_law_bad_number" "_law_bad_number" s_law_bad_number (fAd K ("_law_bad_number", none)) fd_law_bad_number := He5.fun_of F_law_bad_number
  have B_law_bad_number : Binds K fd_law_bad_number ["state", "size_here"] [] := L_law_bad_number.binds fun _ _ _ _ _ _ us hl => match us, hl with | [_, _], _ => rfl
  obtain ⟨fd_check_matter, F_check_matter⟩ := d.def_ 23 (d := ⟨("check_matter", none), "check_matter", "check_matter", defArgs s_check_matter, defBody s_check_matter, defScope s_check_matter, [], []⟩) rfl
  have g_check_matter : mg "check_matter" = some (.ref (ga K "check_matter")) := He.glo_ok X G (d.fact 47 (f := .glo "check_matter") rfl)
  have L_check_matter : L2.Fun K "check_matter" "check_matter" s_check_matter (fAd K ("check_matter", none)) fd_check_matter := He5.fun_of F_check_matter
  have B_check_matter : Binds K fd_check_matter ["table", "matter"] [] := L_check_matter.binds fun _ _ _ _ _ _ us hl => match us, hl with | [_, _], _ => rfl
  obtain ⟨fd_is_full, F_is_full⟩ := d.def_ 24 (d := ⟨("is_full", none), "is_full", "is_full", defArgs s_is_full, defBody s_is_full, defScope s_is_full, [], []⟩) rfl
  have g_is_full : mg "is_full" = some (.ref (ga K "is_full")) := He.glo_ok X G (d.fact 48 (f := .glo "is_full") rfl)
  have L_is_full : L2.Fun K "is_full" "is_full" s_is_full (fAd K ("is_full", none)) fd_is_full := He5.fun_of F_is_full
  have B_is_full : Binds K fd_is_full ["table"] [] := L_is_full.binds fun _ _ _ _ _ _ us hl => match us, hl with | [_], _ => rfl
  obtain ⟨fd_sorts, F_sorts⟩ := d.def_ 25 (d := ⟨("sorts", none), "sorts", "sorts", defArgs s_sorts, defBody s_sorts, defScope s_sorts, [], []⟩) rfl
  have g_sorts : mg "sorts" = some (.ref (ga K "sorts")) := He.glo_ok X G (d.fact 49 (f := .glo "sorts") rfl)
  have L_sorts : L2.Fun K "sorts" "sorts" s_sorts (fAd K ("sorts", none)) fd_sorts := He5.fun_of F_sorts
  have B_sorts : Binds K fd_sorts ["table"] [] := L_sorts.binds fun _ _ _ _ _ _ us hl => match us, hl with | [_], _ => rfl
  obtain ⟨fd_law_sorts, F_law_sorts⟩ := d.def_ 26 (d := ⟨("_law_sorts", none), "_law_sorts", "_law_sorts", defArgs s_law_sorts, defBody s_law_sorts, defScope s_law_sorts, [], []⟩) rfl
  have g_law_sorts : mg "_law_sorts" = some (.ref (ga K "_law_sorts")) := He.glo_ok X G (d.fact 50 (f := .glo "_law_sorts") rfl)
  have L_law_sorts : L2.Fun K "_law_sorts" "_law_sorts" s_law_sorts (fAd K ("_law_sorts", none)) fd_law_sorts := He5.fun_of F_law_sorts
  have B_law_sorts : Binds K fd_law_sorts ["rows_here"] [] := L_law_sorts.binds fun _ _ _ _ _ _ us hl => match us, hl with | [_], _ => rfl
  obtain ⟨fd_law_column, F_law_column⟩ := d.def_ 27 (d := ⟨("_law_column", none), "_law_column", "_law_column", defArgs s_law_column, defBody s_law_column, defScope s_law_column, [], []⟩) rfl
  have g_law_column : mg "_law_column" = some (.ref (ga K "_law_column")) := He.glo_ok X G (d.fact 51 (f := .glo "_law_column") rfl)
  have L_law_column : L2.Fun K "_law_column" "_law_column" s_law_column (fAd K ("_law_column", none)) fd_law_column := He5.fun_of F_law_column
  have B_law_column : Binds K fd_law_column ["scope", "spot"] [] := L_law_column.binds fun _ _ _ _ _ _ us hl => match us, hl with | [_, _], _ => rfl
  obtain ⟨fd_law_used, F_law_used⟩ := d.def_ 28 (d := ⟨("_law_used", none), "_law_used", "_law_used", defArgs s_law_used, defBody s_law_used, defScope s_law_used, [], []⟩) rfl
  have g_law_used : mg "_law_used" = some (.ref (ga K "_law_used")) := He.glo_ok X G (d.fact 52 (f := .glo "_law_used") rfl)
  have L_law_used : L2.Fun K "_law_used" "_law_used" s_law_used (fAd K ("_law_used", none)) fd_law_used := He5.fun_of F_law_used
  have B_law_used : Binds K fd_law_used ["scope", "spot"] [] := L_law_used.binds fun _ _ _ _ _ _ us hl => match us, hl with | [_, _], _ => rfl
  obtain ⟨fd_used, F_used⟩ := d.def_ 29 (d := ⟨("used", none), "used", "used", defArgs s_used, defBody s_used, defScope s_used, [], []⟩) rfl
  have g_used : mg "used" = some (.ref (ga K "used")) := He.glo_ok X G (d.fact 53 (f := .glo "used") rfl)
  have L_used : L2.Fun K "used" "used" s_used (fAd K ("used", none)) fd_used := He5.fun_of F_used
  have B_used : Binds K fd_used ["table", "matter"] [] := L_used.binds fun _ _ _ _ _ _ us hl => match us, hl with | [_, _], _ => rfl
  obtain ⟨fd_is_used, F_is_used⟩ := d.def_ 30 (d := ⟨("is_used", none), "is_used", "is_used", defArgs s_is_used, defBody s_is_used, defScope s_is_used, [], []⟩) rfl
  have g_is_used : mg "is_used" = some (.ref (ga K "is_used")) := He.glo_ok X G (d.fact 54 (f := .glo "is_used") rfl)
  have L_is_used : L2.Fun K "is_used" "is_used" s_is_used (fAd K ("is_used", none)) fd_is_used := He5.fun_of F_is_used
  have B_is_used : Binds K fd_is_used ["table", "matter", "thing"] [] := L_is_used.binds fun _ _ _ _ _ _ us hl => match us, hl with | [_, _, _], _ => rfl
  obtain ⟨fd_having, F_having⟩ := d.def_ 31 (d := ⟨("having", none), "having", "having", defArgs s_having, defBody s_having, defScope s_having, [], []⟩) rfl
  have g_having : mg "having" = some (.ref (ga K "having")) := He.glo_ok X G (d.fact 55 (f := .glo "having") rfl)
  have L_having : L2.Fun K "having" "having" s_having (fAd K ("having", none)) fd_having := He5.fun_of F_having
  have B_having : Binds K fd_having ["table", "matter", "custom"] [] := L_having.binds fun _ _ _ _ _ _ us hl => match us, hl with | [_, _, _], _ => rfl
  obtain ⟨fd_law_having, F_law_having⟩ := d.def_ 32 (d := ⟨("_law_having", none), "_law_having", "_law_having", defArgs s_law_having, defBody s_law_having, defScope s_law_having, [], []⟩) rfl
  have g_law_having : mg "_law_having" = some (.ref (ga K "_law_having")) := He.glo_ok X G (d.fact 56 (f := .glo "_law_having") rfl)
  have L_law_having : L2.Fun K "_law_having" "_law_having" s_law_having (fAd K ("_law_having", none)) fd_law_having := He5.fun_of F_law_having
  have B_law_having : Binds K fd_law_having ["scope", "spot", "item"] [] := L_law_having.binds fun _ _ _ _ _ _ us hl => match us, hl with | [_, _, _], _ => rfl
  obtain ⟨fd_Table_eq, F_Table_eq⟩ := d.def_ 33 (d := ⟨("Table", some "__eq__"), "__eq__", "Table.__eq__", defArgs s_Table_eq, defBody s_Table_eq, defScope s_Table_eq, [], []⟩) rfl
  have L_Table_eq : L2.Fun K "__eq__" "Table.__eq__" s_Table_eq (fAd K ("Table", some "__eq__")) fd_Table_eq := He5.fun_of F_Table_eq
  have B_Table_eq : Binds K fd_Table_eq ["self", "other"] [] := L_Table_eq.binds fun _ _ _ _ _ _ us hl => match us, hl with | [_, _], _ => rfl
  obtain ⟨fd_law_told, F_law_told⟩ := d.def_ 34 (d := ⟨("_law_told", none), "_law_told", "_law_told", defArgs s_law_told, defBody s_law_told, defScope s_law_told, [], []⟩) rfl
  have g_law_told : mg "_law_told" = some (.ref (ga K "_law_told")) := He.glo_ok X G (d.fact 57 (f := .glo "_law_told") rfl)
  have L_law_told : L2.Fun K "_law_told" "_law_told" s_law_told (fAd K ("_law_told", none)) fd_law_told := He5.fun_of F_law_told
  have B_law_told : Binds K fd_law_told ["state", "scope", "table_here"] [] := L_law_told.binds fun _ _ _ _ _ _ us hl => match us, hl with | [_, _, _], _ => rfl
  obtain ⟨fd_law_equal, F_law_equal⟩ := d.def_ 35 (d := ⟨("_law_equal", none), "_law_equal", "_law_equal", defArgs s_law_equal, defBody s_law_equal, defScope s_law_equal, [], []⟩) rfl
  have g_law_equal : mg "_law_equal" = some (.ref (ga K "_law_equal")) := He.glo_ok X G (d.fact 58 (f := .glo "_law_equal") rfl)
  have L_law_equal : L2.Fun K "_law_equal" "_law_equal" s_law_equal (fAd K ("_law_equal", none)) fd_law_equal := He5.fun_of F_law_equal
  have B_law_equal : Binds K fd_law_equal ["state", "scope", "table_here"] [] := L_law_equal.binds fun _ _ _ _ _ _ us hl => match us, hl with | [_, _, _], _ => rfl
  obtain ⟨fd_law, F_law⟩ := d.def_ 36 (d := ⟨("law", none), "law", "law", defArgs s_law, defBody s_law, defScope s_law, [], []⟩) rfl
  have g_law : mg "law" = some (.ref (ga K "law")) := He.glo_ok X G (d.fact 59 (f := .glo "law") rfl)
  have L_law : L2.Fun K "law" "law" s_law (fAd K ("law", none)) fd_law := He5.fun_of F_law
  have B_law : Binds K fd_law ["script"] [] := L_law.binds fun _ _ _ _ _ _ us hl => match us, hl with | [_], _ => rfl
  obtain ⟨fd_law_caught, F_law_caught⟩ := d.def_ 37 (d := ⟨("_law_caught", none), "_law_caught", "_law_caught", defArgs s_law_caught, defBody s_law_caught, defScope s_law_caught, [], []⟩) rfl
  have g_law_caught : mg "_law_caught" = some (.ref (ga K "_law_caught")) := He.glo_ok X G (d.fact 60 (f := .glo "_law_caught") rfl)
  have L_law_caught : L2.Fun K "_law_caught" "_law_caught" s_law_caught (fAd K ("_law_caught", none)) fd_law_caught := He5.fun_of F_law_caught
  have B_law_caught : Binds K fd_law_caught ["work"] [] := L_law_caught.binds fun _ _ _ _ _ _ us hl => match us, hl with | [_], _ => rfl
  obtain ⟨t_MOST_KIND, k_MOST_KIND⟩ := He.int_ok X G (d.fact 15 (f := .int "MOST_KIND" 6) rfl)
  obtain ⟨t_MOST_MATTERS, k_MOST_MATTERS⟩ := He.int_ok X G (d.fact 16 (f := .int "MOST_MATTERS" 8) rfl)
  obtain ⟨t_MOST_VALLEYS, k_MOST_VALLEYS⟩ := He.int_ok X G (d.fact 17 (f := .int "MOST_VALLEYS" 12) rfl)
  have m0 := c.more
  obtain ⟨q0, m1⟩ := b2 m0
  obtain ⟨q1, m2⟩ := b2 m1
  obtain ⟨q2, m3⟩ := b2 m2
  obtain ⟨q3, m4⟩ := b2 m3
  obtain ⟨q4, m5⟩ := b2 m4
  obtain ⟨q5, m6⟩ := b2 m5
  obtain ⟨q6, m7⟩ := b2 m6
  obtain ⟨q7, m8⟩ := b2 m7
  obtain ⟨q8, m9⟩ := b2 m8
  have E_BadCustom := errFB_ok q0
  have E_BadKinds := errFB_ok q1
  have E_BadMatter := errFB_ok q2
  have E_BadRows := errFB_ok q3
  have E_BadTable := errFB_ok q4
  have C_Table := clsFB_ok q5
  have M_Table := mkB_ok q6
  have Q_Table := eqOB_ok q7
  have NF_Table := nfB_ok q8
  have hap : apartB K tfs = true := m9
  have T : Txt K mg (csK K) ⟨t_MOST_KIND, t_MOST_MATTERS, t_MOST_VALLEYS⟩ := {
    n_abs := He.free_ok X G (d.fact 0 (f := .free "abs") rfl)
    n_all := He.free_ok X G (d.fact 1 (f := .free "all") rfl)
    n_bool := He.free_ok X G (d.fact 2 (f := .free "bool") rfl)
    n_enumerate := He.free_ok X G (d.fact 3 (f := .free "enumerate") rfl)
    n_int := He.free_ok X G (d.fact 4 (f := .free "int") rfl)
    n_isinstance := He.free_ok X G (d.fact 5 (f := .free "isinstance") rfl)
    n_len := He.free_ok X G (d.fact 6 (f := .free "len") rfl)
    n_list := He.free_ok X G (d.fact 7 (f := .free "list") rfl)
    n_min := He.free_ok X G (d.fact 8 (f := .free "min") rfl)
    n_range := He.free_ok X G (d.fact 9 (f := .free "range") rfl)
    n_repr := He.free_ok X G (d.fact 10 (f := .free "repr") rfl)
    n_set := He.free_ok X G (d.fact 11 (f := .free "set") rfl)
    n_sorted := He.free_ok X G (d.fact 12 (f := .free "sorted") rfl)
    n_tuple := He.free_ok X G (d.fact 13 (f := .free "tuple") rfl)
    n_zip := He.free_ok X G (d.fact 14 (f := .free "zip") rfl)
    k_MOST_KIND := ⟨trivial, k_MOST_KIND⟩
    k_MOST_MATTERS := ⟨trivial, k_MOST_MATTERS⟩
    k_MOST_VALLEYS := ⟨trivial, k_MOST_VALLEYS⟩
    g_BadCustom := He.glo_ok X G (d.fact 18 (f := .glo "BadCustom") rfl)
    g_BadKinds := He.glo_ok X G (d.fact 19 (f := .glo "BadKinds") rfl)
    g_BadMatter := He.glo_ok X G (d.fact 20 (f := .glo "BadMatter") rfl)
    g_BadRows := He.glo_ok X G (d.fact 21 (f := .glo "BadRows") rfl)
    g_BadTable := He.glo_ok X G (d.fact 22 (f := .glo "BadTable") rfl)
    g_FoundError := He.glo_ok X G (d.fact 23 (f := .glo "FoundError") rfl)
    g_Table := He.glo_ok X G (d.fact 24 (f := .glo "Table") rfl)
    x_BadCustom := E_BadCustom.x
    e_BadCustom := E_BadCustom.e
    b_BadCustom := E_BadCustom.b
    t_BadCustom := E_BadCustom.t
    r_BadCustom := E_BadCustom.r
    i_BadCustom := E_BadCustom.i
    v_BadCustom := E_BadCustom.v
    x_BadKinds := E_BadKinds.x
    e_BadKinds := E_BadKinds.e
    b_BadKinds := E_BadKinds.b
    t_BadKinds := E_BadKinds.t
    r_BadKinds := E_BadKinds.r
    i_BadKinds := E_BadKinds.i
    v_BadKinds := E_BadKinds.v
    x_BadMatter := E_BadMatter.x
    e_BadMatter := E_BadMatter.e
    b_BadMatter := E_BadMatter.b
    t_BadMatter := E_BadMatter.t
    r_BadMatter := E_BadMatter.r
    i_BadMatter := E_BadMatter.i
    v_BadMatter := E_BadMatter.v
    x_BadRows := E_BadRows.x
    e_BadRows := E_BadRows.e
    b_BadRows := E_BadRows.b
    t_BadRows := E_BadRows.t
    r_BadRows := E_BadRows.r
    i_BadRows := E_BadRows.i
    v_BadRows := E_BadRows.v
    x_BadTable := E_BadTable.x
    e_BadTable := E_BadTable.e
    b_BadTable := E_BadTable.b
    t_BadTable := E_BadTable.t
    r_BadTable := E_BadTable.r
    i_BadTable := E_BadTable.i
    v_BadTable := E_BadTable.v
    d__law_no_custom := g_law_no_custom
    d__law_no_matter := g_law_no_matter
    d__law_no_table := g_law_no_table
    nf_Table := NF_Table
    ic_Table := C_Table.ic
    no_Table := C_Table.no
    i_Table := C_Table.i
    na_Table_kinds := C_Table.na "kinds" (by simp)
    na_Table_rows := C_Table.na "rows" (by simp)
  }
  have e := hfa.symm.trans g_law
  cases e
  refine ⟨tfs.map (fun p => cT K p.1), fd_law, spLaw K (TTof K tfs), ⟨fun p hp => ?_, fun p hp => ?_, fun p hp => ?_⟩, fun base KI GI TB => ?_, fun s u => .of_eq ?_, fun H a ns hl _ hH hS => ⟨a, ns, rfl, hS, hl, tabs_of hH, fun _ => rfl⟩⟩
  · obtain ⟨r, hr, rfl⟩ := List.mem_map.mp hp
    exact c.empty r.1 (List.mem_map.mpr ⟨r, hr, rfl⟩)
  · obtain ⟨r, hr, rfl⟩ := List.mem_map.mp hp
    exact PySem.W.codeHd_of_K X (c.hd r.1 (List.mem_map.mpr ⟨r, hr, rfl⟩))
  · obtain ⟨r, hr, rfl⟩ := List.mem_map.mp hp
    exact c.out r.1 (List.mem_map.mpr ⟨r, hr, rfl⟩)
  · have c_is_number := ok_is_number (P := PySem.Challenge.rw_oncefound_k01_what_a_table_tells.prog) (w := w) (base := base) (TT := TTof K tfs) T ⟨_, _, L_is_number, g_is_number, L_is_number.kp, B_is_number⟩
    have c_first_unread := ok_first_unread (P := PySem.Challenge.rw_oncefound_k01_what_a_table_tells.prog) (w := w) (base := base) (TT := TTof K tfs) T ⟨_, _, L_first_unread, g_first_unread, L_first_unread.kp, B_first_unread⟩
    have c_law_put := ok_law_put (P := PySem.Challenge.rw_oncefound_k01_what_a_table_tells.prog) (w := w) (base := base) (TT := TTof K tfs) T ⟨_, _, L_law_put, g_law_put, L_law_put.kp, B_law_put⟩
    have c_law_draw := ok_law_draw (P := PySem.Challenge.rw_oncefound_k01_what_a_table_tells.prog) (w := w) (base := base) (TT := TTof K tfs) T ⟨_, _, L_law_draw, g_law_draw, L_law_draw.kp, B_law_draw⟩
    have c_check_table := ok_check_table (P := PySem.Challenge.rw_oncefound_k01_what_a_table_tells.prog) (w := w) (base := base) (TT := TTof K tfs) T ⟨_, _, L_check_table, g_check_table, L_check_table.kp, B_check_table⟩
    have c_law_no_table := ok_law_no_table (P := PySem.Challenge.rw_oncefound_k01_what_a_table_tells.prog) (w := w) (base := base) (TT := TTof K tfs) T ⟨_, _, L_law_no_table, g_law_no_table, L_law_no_table.kp, B_law_no_table⟩
    have c_law_begun := ok_law_begun (P := PySem.Challenge.rw_oncefound_k01_what_a_table_tells.prog) (w := w) (base := base) T ⟨_, _, L_law_begun, g_law_begun, L_law_begun.kp, B_law_begun⟩
    have c_law_no_matter := ok_law_no_matter (P := PySem.Challenge.rw_oncefound_k01_what_a_table_tells.prog) (w := w) (base := base) (TT := TTof K tfs) T ⟨_, _, L_law_no_matter, g_law_no_matter, L_law_no_matter.kp, B_law_no_matter⟩
    have c_law_no_custom := ok_law_no_custom (P := PySem.Challenge.rw_oncefound_k01_what_a_table_tells.prog) (w := w) (base := base) (TT := TTof K tfs) T ⟨_, _, L_law_no_custom, g_law_no_custom, L_law_no_custom.kp, B_law_no_custom⟩
    have c_law_sorts := ok_law_sorts (P := PySem.Challenge.rw_oncefound_k01_what_a_table_tells.prog) (w := w) (base := base) (TT := TTof K tfs) T ⟨_, _, L_law_sorts, g_law_sorts, L_law_sorts.kp, B_law_sorts⟩
    have c_law_column := ok_law_column (P := PySem.Challenge.rw_oncefound_k01_what_a_table_tells.prog) (w := w) (base := base) (TT := TTof K tfs) T ⟨_, _, L_law_column, g_law_column, L_law_column.kp, B_law_column⟩
    have c_Table_eq := ok_Table_eq (P := PySem.Challenge.rw_oncefound_k01_what_a_table_tells.prog) (w := w) (base := base) (TT := TTof K tfs) T ⟨_, _, L_Table_eq, Q_Table, B_Table_eq⟩
    have c_is_between := ok_is_between (P := PySem.Challenge.rw_oncefound_k01_what_a_table_tells.prog) (w := w) (base := base) (TT := TTof K tfs) T ⟨_, _, L_is_between, g_is_between, L_is_between.kp, B_is_between⟩ c_is_number
    have c_law_pick := ok_law_pick (P := PySem.Challenge.rw_oncefound_k01_what_a_table_tells.prog) (w := w) (base := base) (TT := TTof K tfs) T ⟨_, _, L_law_pick, g_law_pick, L_law_pick.kp, B_law_pick⟩ c_law_draw
    have c_law_cell := ok_law_cell (P := PySem.Challenge.rw_oncefound_k01_what_a_table_tells.prog) (w := w) (base := base) (TT := TTof K tfs) T ⟨_, _, L_law_cell, g_law_cell, L_law_cell.kp, B_law_cell⟩ c_law_draw
    have c_is_full := ok_is_full (P := PySem.Challenge.rw_oncefound_k01_what_a_table_tells.prog) (w := w) (base := base) (TT := TTof K tfs) T ⟨_, _, L_is_full, g_is_full, L_is_full.kp, B_is_full⟩ c_check_table
    have c_sorts := ok_sorts (P := PySem.Challenge.rw_oncefound_k01_what_a_table_tells.prog) (w := w) (base := base) (TT := TTof K tfs) T ⟨_, _, L_sorts, g_sorts, L_sorts.kp, B_sorts⟩ c_check_table
    have c_law_used := ok_law_used (P := PySem.Challenge.rw_oncefound_k01_what_a_table_tells.prog) (w := w) (base := base) (TT := TTof K tfs) T ⟨_, _, L_law_used, g_law_used, L_law_used.kp, B_law_used⟩ c_law_column
    have c_law_having := ok_law_having (P := PySem.Challenge.rw_oncefound_k01_what_a_table_tells.prog) (w := w) (base := base) (TT := TTof K tfs) T ⟨_, _, L_law_having, g_law_having, L_law_having.kp, B_law_having⟩ c_law_column
    have c_is_kind := ok_is_kind (P := PySem.Challenge.rw_oncefound_k01_what_a_table_tells.prog) (w := w) (base := base) (TT := TTof K tfs) T ⟨_, _, L_is_kind, g_is_kind, L_is_kind.kp, B_is_kind⟩ c_is_between
    have c_is_cell := ok_is_cell (P := PySem.Challenge.rw_oncefound_k01_what_a_table_tells.prog) (w := w) (base := base) (TT := TTof K tfs) T ⟨_, _, L_is_cell, g_is_cell, L_is_cell.kp, B_is_cell⟩ c_is_between
    have c_law_bad_table := ok_law_bad_table (P := PySem.Challenge.rw_oncefound_k01_what_a_table_tells.prog) (w := w) (base := base) (TT := TTof K tfs) T ⟨_, _, L_law_bad_table, g_law_bad_table, L_law_bad_table.kp, B_law_bad_table⟩ c_law_pick
    have c_law_wide := ok_law_wide (P := PySem.Challenge.rw_oncefound_k01_what_a_table_tells.prog) (w := w) (base := base) (TT := TTof K tfs) T ⟨_, _, L_law_wide, g_law_wide, L_law_wide.kp, B_law_wide⟩ c_law_draw c_law_cell c_law_put
    have c_law_bad_number := ok_law_bad_number (P := PySem.Challenge.rw_oncefound_k01_what_a_table_tells.prog) (w := w) (base := base) (TT := TTof K tfs) T ⟨_, _, L_law_bad_number, g_law_bad_number, L_law_bad_number.kp, B_law_bad_number⟩ c_law_pick
    have c_check_matter := ok_check_matter (P := PySem.Challenge.rw_oncefound_k01_what_a_table_tells.prog) (w := w) (base := base) (TT := TTof K tfs) T ⟨_, _, L_check_matter, g_check_matter, L_check_matter.kp, B_check_matter⟩ c_is_between
    have c_are_kinds := ok_are_kinds (P := PySem.Challenge.rw_oncefound_k01_what_a_table_tells.prog) (w := w) (base := base) (TT := TTof K tfs) T ⟨_, _, L_are_kinds, g_are_kinds, L_are_kinds.kp, B_are_kinds⟩ c_is_kind
    have c_is_row_for := ok_is_row_for (P := PySem.Challenge.rw_oncefound_k01_what_a_table_tells.prog) (w := w) (base := base) (TT := TTof K tfs) T ⟨_, _, L_is_row_for, g_is_row_for, L_is_row_for.kp, B_is_row_for⟩ c_is_cell
    have c_used := ok_used (P := PySem.Challenge.rw_oncefound_k01_what_a_table_tells.prog) (w := w) (base := base) (TT := TTof K tfs) T ⟨_, _, L_used, g_used, L_used.kp, B_used⟩ c_check_table c_check_matter
    have c_are_rows := ok_are_rows (P := PySem.Challenge.rw_oncefound_k01_what_a_table_tells.prog) (w := w) (base := base) (TT := TTof K tfs) T ⟨_, _, L_are_rows, g_are_rows, L_are_rows.kp, B_are_rows⟩ c_is_row_for c_first_unread
    have c_is_used := ok_is_used (P := PySem.Challenge.rw_oncefound_k01_what_a_table_tells.prog) (w := w) (base := base) (TT := TTof K tfs) T ⟨_, _, L_is_used, g_is_used, L_is_used.kp, B_is_used⟩ c_is_number c_used
    have c_Table_init := ok_Table_init (P := PySem.Challenge.rw_oncefound_k01_what_a_table_tells.prog) (w := w) (base := base) (TT := TTof K tfs) T (init2_of L_Table_init M_Table B_Table_init fun s us ws h1 h2 => match us, ws, h1, h2 with | [_], [_, _], _, _ => .of_eq (by obtain ⟨_, _, _, _, _, _, _, _, _, e, _⟩ := L_Table_init.ex; subst e; rfl)) c_are_kinds c_are_rows
    have c_having := ok_having (P := PySem.Challenge.rw_oncefound_k01_what_a_table_tells.prog) (w := w) (base := base) (TT := TTof K tfs) T ⟨_, _, L_having, g_having, L_having.kp, B_having⟩ c_check_table c_check_matter c_is_used
    have c_law_made := ok_law_made (P := PySem.Challenge.rw_oncefound_k01_what_a_table_tells.prog) (w := w) (base := base) (TT := TTof K tfs) T ⟨_, _, L_law_made, g_law_made, L_law_made.kp, B_law_made⟩ c_Table_init
    have c_law_equal := ok_law_equal (P := PySem.Challenge.rw_oncefound_k01_what_a_table_tells.prog) (w := w) (base := base) (TT := TTof K tfs) T ⟨_, _, L_law_equal, g_law_equal, L_law_equal.kp, B_law_equal⟩ c_law_draw c_law_put c_Table_init c_Table_eq
    have c_law_refused := ok_law_refused (P := PySem.Challenge.rw_oncefound_k01_what_a_table_tells.prog) (w := w) (base := base) (TT := TTof K tfs) T ⟨_, _, funC_of F_law_refused, g_law_refused, L_law_refused.kp, B_law_refused⟩ c_law_draw c_law_pick ⟨_, _, L_law_caught, g_law_caught, L_law_caught.kp, B_law_caught⟩ (makesAt_of hap TB (p := (("_law_refused", none), "_law_refused.<locals>.<lambda>")) (by simp [tfs]))
    have c_law_told := ok_law_told (P := PySem.Challenge.rw_oncefound_k01_what_a_table_tells.prog) (w := w) (base := base) (TT := TTof K tfs) T ⟨_, _, funC_of F_law_told, g_law_told, L_law_told.kp, B_law_told⟩ c_law_used c_used c_having c_law_having c_law_bad_table c_law_bad_number c_law_refused c_law_pick c_law_no_table c_law_no_matter c_law_no_custom ⟨_, _, L_law_caught, g_law_caught, L_law_caught.kp, B_law_caught⟩ (makesAt_of hap TB (p := (("_law_told", none), "_law_told.<locals>.<lambda>")) (by simp [tfs]))
    have c_law := ok_law (P := PySem.Challenge.rw_oncefound_k01_what_a_table_tells.prog) (w := w) (base := base) (TT := TTof K tfs) T (funC_of F_law) c_law_begun c_law_wide c_law_made c_sorts c_law_sorts c_is_full c_law_bad_table c_law_no_table c_law_told c_law_equal c_used c_law_used ⟨_, _, L_law_caught, g_law_caught, L_law_caught.kp, B_law_caught⟩ (makesAt_of hap TB (p := (("law", none), "law.<locals>.<lambda>")) (by simp [tfs]))
    exact c_law.mono (by decide)
  · obtain ⟨oc, od, dV, kV, doc, pm, an, cdv, ct, osl, e, lk, hcd, hD, _⟩ := F_law.ex
    rcases hD with ⟨_, e2⟩ | ⟨e2, _⟩
    · subst e e2
      rfl
    · exact absurd rfl e2
end Lw
open PySem PySem.W PySem.Calls PyProof.Rows
set_option maxRecDepth 100000 in
set_option maxHeartbeats 0 in
theorem PySem.Challenge.cw_oncefound_k01_what_a_table_tells_holds : PySem.Challenge.rw_oncefound_k01_what_a_table_tells.Holds := by
  w_on; o_law
  refine HandSHeadRun.head_any (r := Lw.Rw) (q := view Lw.Rw.prog [49]) (H := Lw.hk) (ob := Lw.ob) (M := 6000) (loose := Lw.loose) (d := HandSHeadRun.topDef Lw.Rw.prog 49) (kwd := []) Lw.ob_eq (by kernel_rfl) (fun s => by kernel_rfl) Lw.run (by kernel_rfl) (by kernel_rfl) (by kernel_rfl) (by rfl) (by first | assumption | decide +kernel) (by decide +kernel) ⟨rfl, rfl, rfl, rfl, rfl, by decide +kernel⟩ ?hw ?hc
  case hw => w_witness2
  case hc =>
    refine DL.walkGE (l := PySem.Challenge.rw_oncefound_k01_what_a_table_tells) (n := 63) (k := 35) (x := "script") (CX := fun _ => L2.CX0) rfl (by decide) (by kernel_rfl) ⟨rfl, by decide, by decide⟩ ?F (fun _ _ _ _ _ z => z)
    intro w mg fa h Y G hmg0
    obtain ⟨K, KX, c⟩ := Y
    have hmg : mg ("law" : PySem.Str) = some (.ref fa) := by
      have e : (HandSHeadRun.topDef Lw.Rw.prog 49).name = ("law" : PySem.Str) := by kernel_rfl
      rw [← e]
      exact hmg0
    exact ⟨K, KX, Lw.facts KX G hmg c⟩
