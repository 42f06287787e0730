import PyProof.Rows.All
import Wide.All
import OpenK.AllK
import Wide.FinOn
import HandS.ForMost
import HandS.Flow
import HandS.Conv
import HandS.Deep
import HandS.Walk
import HandS.Evl
import HandS.Strs
import HandS.ExcInit
import HandS.Lambda
import HandS.TupAny
import HandS.TupMul
import HandS.Wide
import HandS.WideBits
import HandS.IsInst
import HandS.Gcd
import HandS.Style
import HandS.SortInts
import HandS.SortKw
import PyProof.ReprRoads
import HandS.Ends
import HandS.EndBits
import HandS.ExcOwn
import HandS.SetFor
import KE.KMathG
import KE.KExcSuper
import KE.KExcInit
import KE.KExcIs
import HandS.ExcValue
import HandS.TryMany
import HandS.WordsExc
import HandS.EndTab
import KE.GoesMore
import PyProof.EnumMake
import PyProof.AutoSeq1
import PyProof.WalksMore
import PyProof.Rows.SumAny
import KE.SortData
import PyProof.Rows.SortShell
import PyProof.ReprLen
import PyProof.FitsInt
import PyProof.Rows.ReprOcc
import PySem.Challenge.RW_seatbuttons_k02_whole_turns_and_their_ri
set_option Elab.async false
set_option linter.all false
set_option maxRecDepth 100000
set_option maxHeartbeats 4000000
/-! Eng: what a def does, said over deep data. D: a value with all that hangs on it; S: the slots and the cup; SE, SS: what an expression, a statement does; trE, trS: the reading of the hand layer that says just this. -/
namespace Eng
open PySem PySem.Spec PyProof.Rows L2 Evl

/-- what is wanted of an exception, by the slots -/
abbrev XS := L2.St → XK
/-- there is none -/
abbrev EN : XS := fun _ _ _ _ => False
/-! ### deep data -/
inductive D where
  | non | bl (b : Bool) | int (i : Int) | str (x : Str) | tup (ds : List D) | lst (ds : List D) | obj (C : Addr) (fs : List (Str × D)) | exc (C : Addr) (fs : List (Str × D)) | scr (ns : List Int)
mutual
def D.py : D → Option PyData
  | .non => some .none
  | .bl b => some (.bool b)
  | .int i => some (.int i)
  | .str x => some (.str x)
  | .tup ds => (D.pys ds).map .tuple
  | .lst ds => (D.pys ds).map .list
  | .obj _ _ => none
  | .exc _ _ => none
  | .scr _ => none
def D.pys : List D → Option (List PyData)
  | [] => some []
  | d :: ds => match D.py d, D.pys ds with
    | some p, some ps => some (p :: ps)
    | _, _ => none
end
mutual
inductive Dq (K : PySem.W.Frag) (H : Hp) : V → D → Prop
  | non : Dq K H .non .non
  | bl (b : Bool) : Dq K H (.bl b) (.bl b)
  | int (i : Int) : Dq K H (.int i) (.int i)
  | str (x : Str) : Dq K H (.str x) (.str x)
  | lst {a : Addr} {xs : List V} {ds : List D} : H a = some (.lst xs) → DqAll K H xs ds → Dq K H (.ref a) (.lst ds)
  | tup {a : Addr} {xs : List V} {ds : List D} : SqT K H a xs → DqAll K H xs ds → Dq K H (.ref a) (.tup ds)
  | obj {a C dx : Addr} {fs : List (Str × V)} {ds : List (Str × D)} : H a = some (.ins C dx fs) → DqFs K H fs ds → Dq K H (.ref a) (.obj C ds)
  | exc {a C dx : Addr} {fs : List (Str × V)} {ds : List (Str × D)} : H a = some (exo a C (some dx)) → H dx = some (exd dx fs) → DqFs K H fs ds → Dq K H (.ref a) (.exc C ds)
  | scr {a : Addr} {ns : List Int} : SqL K H a (ns.map V.int) → Dq K H (.ref a) (.scr ns)
  | exc0 {a C : Addr} : H a = some (exo a C none) → Dq K H (.ref a) (.exc C [])
inductive DqAll (K : PySem.W.Frag) (H : Hp) : List V → List D → Prop
  | nil : DqAll K H [] []
  | cons {v : V} {vs : List V} {d : D} {ds : List D} : Dq K H v d → DqAll K H vs ds → DqAll K H (v :: vs) (d :: ds)
inductive DqFs (K : PySem.W.Frag) (H : Hp) : List (Str × V) → List (Str × D) → Prop
  | nil : DqFs K H [] []
  | cons {f : Str} {v : V} {vs : List (Str × V)} {d : D} {ds : List (Str × D)} : Dq K H v d → DqFs K H vs ds → DqFs K H ((f, v) :: vs) ((f, d) :: ds)
end
section
variable {K : PySem.W.Frag} {H H' : Hp}
mutual
theorem Dq.mono (e : Ex H H') : ∀ {d : D} {v : V}, Dq K H v d → Dq K H' v d
  | .non, _, h => by cases h; exact .non
  | .bl b, _, h => by cases h; exact .bl b
  | .int i, _, h => by cases h; exact .int i
  | .str x, _, h => by cases h; exact .str x
  | .lst ds, _, h => by
    cases h with
    | lst s a => exact .lst (e _ _ s) (DqAll.mono e a)
  | .tup ds, _, h => by
    cases h with
    | tup s a => exact .tup (ex_t e s) (DqAll.mono e a)
  | .obj C fs, _, h => by
    cases h with
    | obj s a => exact .obj (e _ _ s) (DqFs.mono e a)
  | .exc C fs, _, h => by
    cases h with
    | exc s t a => exact .exc (e _ _ s) (e _ _ t) (DqFs.mono e a)
    | exc0 s => exact .exc0 (e _ _ s)
  | .scr ns, _, h => by
    cases h with
    | scr s => exact .scr (ex_l e s)
theorem DqAll.mono (e : Ex H H') : ∀ {ds : List D} {vs : List V}, DqAll K H vs ds → DqAll K H' vs ds
  | [], _, h => by cases h; exact .nil
  | d :: ds, _, h => by
    cases h with
    | cons a b => exact .cons (Dq.mono e a) (DqAll.mono e b)
theorem DqFs.mono (e : Ex H H') : ∀ {ds : List (Str × D)} {vs : List (Str × V)}, DqFs K H vs ds → DqFs K H' vs ds
  | [], _, h => by cases h; exact .nil
  | (f, d) :: ds, _, h => by
    cases h with
    | cons a b => exact .cons (Dq.mono e a) (DqFs.mono e b)
end
mutual
theorem Dq.dp : ∀ {d : D} {v : V} {p : PyData}, Dq K H v d → d.py = some p → Dp K H v p
  | .non, _, p, h, e => by
    cases h
    simp only [D.py, Option.some.injEq] at e
    subst e
    exact .non
  | .bl b, _, p, h, e => by
    cases h
    simp only [D.py, Option.some.injEq] at e
    subst e
    exact .bl b
  | .int i, _, p, h, e => by
    cases h
    simp only [D.py, Option.some.injEq] at e
    subst e
    exact .int i
  | .str x, _, p, h, e => by
    cases h
    simp only [D.py, Option.some.injEq] at e
    subst e
    exact .str x
  | .lst ds, _, p, h, e => by
    cases h with
    | lst s a =>
      simp only [D.py, Option.map_eq_some_iff] at e
      obtain ⟨ps, e1, rfl⟩ := e
      exact .lst (SqL.of s) (DqAll.dp a e1)
  | .tup ds, _, p, h, e => by
    cases h with
    | tup s a =>
      simp only [D.py, Option.map_eq_some_iff] at e
      obtain ⟨ps, e1, rfl⟩ := e
      exact .tup s (DqAll.dp a e1)
  | .obj C fs, _, p, h, e => by simp [D.py] at e
  | .exc C fs, _, p, h, e => by simp [D.py] at e
  | .scr ns, _, p, h, e => by simp [D.py] at e
theorem DqAll.dp : ∀ {ds : List D} {vs : List V} {ps : List PyData}, DqAll K H vs ds → D.pys ds = some ps → DpAll K H vs ps
  | [], _, ps, h, e => by
    cases h
    simp only [D.pys, Option.some.injEq] at e
    subst e
    exact .nil
  | d :: ds, _, ps, h, e => by
    cases h with
    | cons a b =>
      simp only [D.pys] at e
      split at e
      · rename_i p qs e1 e2
        cases e
        exact .cons (Dq.dp a e1) (DqAll.dp b e2)
      · cases e
end
theorem DqAll.length : ∀ {ds : List D} {vs : List V}, DqAll K H vs ds → vs.length = ds.length
  | [], _, h => by cases h; rfl
  | d :: ds, _, h => by
    cases h with
    | cons a b => simp [DqAll.length b]
theorem DqAll.get : ∀ {ds : List D} {vs : List V} {i : Nat} {d : D}, DqAll K H vs ds → ds[i]? = some d → ∃ v, vs[i]? = some v ∧ Dq K H v d
  | [], _, i, d, h, e => by simp at e
  | d0 :: ds, _, 0, d, h, e => by
    cases h with
    | cons a b =>
      simp at e
      subst e
      exact ⟨_, rfl, a⟩
  | d0 :: ds, _, i + 1, d, h, e => by
    cases h with
    | cons a b =>
      obtain ⟨v, h1, h2⟩ := DqAll.get (i := i) (d := d) b (by simpa using e)
      exact ⟨v, by simpa using h1, h2⟩
theorem DqAll.getV : ∀ {ds : List D} {vs : List V} {i : Nat} {v : V}, DqAll K H vs ds → vs[i]? = some v → ∃ d, ds[i]? = some d ∧ Dq K H v d
  | [], _, i, v, h, e => by cases h; simp at e
  | d0 :: ds, _, 0, v, h, e => by
    cases h with
    | cons a b =>
      simp at e
      subst e
      exact ⟨_, rfl, a⟩
  | d0 :: ds, _, i + 1, v, h, e => by
    cases h with
    | cons a b =>
      obtain ⟨v, h1, h2⟩ := DqAll.getV (i := i) (v := v) b (by simpa using e)
      exact ⟨v, by simpa using h1, h2⟩
theorem DqAll.append : ∀ {ds es : List D} {vs ws : List V}, DqAll K H vs ds → DqAll K H ws es → DqAll K H (vs ++ ws) (ds ++ es)
  | [], _, _, _, h, h2 => by cases h; exact h2
  | d :: ds, _, _, _, h, h2 => by
    cases h with
    | cons a b => exact .cons a (DqAll.append b h2)
theorem DqAll.one {v : V} {d : D} (h : Dq K H v d) : DqAll K H [v] [d] := .cons h .nil
theorem DqAll.set : ∀ {ds : List D} {vs : List V} {v : V} {d : D} (i : Nat), Dq K H v d → DqAll K H vs ds → DqAll K H (vs.set i v) (ds.set i d)
  | [], _, _, _, _, _, h => by cases h; exact .nil
  | d0 :: ds, _, _, _, 0, q, h => by
    cases h with
    | cons a b => exact .cons q b
  | d0 :: ds, _, _, _, i + 1, q, h => by
    cases h with
    | cons a b => exact .cons a (DqAll.set i q b)
theorem DqAll.take : ∀ {ds : List D} {vs : List V} (n : Nat), DqAll K H vs ds → DqAll K H (vs.take n) (ds.take n)
  | _, _, 0, _ => by simp; exact .nil
  | [], _, n + 1, h => by cases h; exact .nil
  | d :: ds, _, n + 1, h => by
    cases h with
    | cons a b => exact .cons a (DqAll.take n b)
theorem DqAll.drop : ∀ {ds : List D} {vs : List V} (n : Nat), DqAll K H vs ds → DqAll K H (vs.drop n) (ds.drop n)
  | _, _, 0, h => by simpa using h
  | [], _, n + 1, h => by cases h; exact .nil
  | d :: ds, _, n + 1, h => by
    cases h with
    | cons a b => exact DqAll.drop n b
theorem DqAll.reverse : ∀ {ds : List D} {vs : List V}, DqAll K H vs ds → DqAll K H vs.reverse ds.reverse
  | [], _, h => by cases h; exact .nil
  | d :: ds, _, h => by
    cases h with
    | cons a b =>
      rw [List.reverse_cons, List.reverse_cons]
      exact (DqAll.reverse b).append (.one a)
theorem DqAll.rep {ds : List D} {vs : List V} (h : DqAll K H vs ds) : ∀ n : Nat, DqAll K H (List.replicate n vs).flatten (List.replicate n ds).flatten
  | 0 => by simp; exact .nil
  | n + 1 => by
    rw [List.replicate_succ, List.replicate_succ, List.flatten_cons, List.flatten_cons]
    exact h.append (DqAll.rep h n)
theorem DqAll.eraseIdx : ∀ {ds : List D} {vs : List V} (i : Nat), DqAll K H vs ds → DqAll K H (vs.eraseIdx i) (ds.eraseIdx i)
  | [], _, _, h => by cases h; exact .nil
  | d :: ds, _, 0, h => by
    cases h with
    | cons a b => exact b
  | d :: ds, _, i + 1, h => by
    cases h with
    | cons a b => exact .cons a (DqAll.eraseIdx i b)
theorem DqAll.insertIdx : ∀ {ds : List D} {vs : List V} {v : V} {d : D} (i : Nat), Dq K H v d → DqAll K H vs ds → DqAll K H (vs.insertIdx i v) (ds.insertIdx i d)
  | ds, vs, _, _, 0, q, h => by simpa using DqAll.cons q h
  | [], _, _, _, i + 1, q, h => by cases h; exact .nil
  | d0 :: ds, _, _, _, i + 1, q, h => by
    cases h with
    | cons a b => exact .cons a (DqAll.insertIdx i q b)
theorem dq_ints : ∀ ns : List Int, DqAll K H (ns.map V.int) (ns.map D.int)
  | [] => .nil
  | n :: ns => .cons (.int n) (dq_ints ns)
theorem dq_strs : ∀ ns : List Str, DqAll K H (ns.map V.str) (ns.map D.str)
  | [] => .nil
  | n :: ns => .cons (.str n) (dq_strs ns)
theorem ints_dq : ∀ {ns : List Int} {vs : List V}, DqAll K H vs (ns.map D.int) → vs = ns.map V.int
  | [], _, h => by cases h; rfl
  | n :: ns, _, h => by
    cases h with
    | cons a b =>
      cases a
      rw [ints_dq b]
      rfl
end

/-! ### tables of code objects -/
/-- the tables that defs may write to which make lambdas, and the lambdas' names -/
class Tb where
  T : List (Addr × Str)
/-- no table -/
def nT (o : HO) : Prop := ∀ ps, o ≠ .tbl ps
/-- nothing, or a table -/
def Nn (H : Hp) (a : Addr) : Prop := ∀ o, H a = some o → ¬ nT o
theorem Nn.of {H : Hp} {a : Addr} (n : H a = none) : Nn H a := fun o h => by rw [n] at h; cases h
theorem nT_lst {xs : List V} : nT (.lst xs) := fun _ z => by cases z
theorem Nn.ne {H : Hp} {a b : Addr} {o : HO} (n : Nn H a) (h : H b = some o) (t : nT o) : b ≠ a := fun z => n o (by rw [← z]; exact h) t
variable [Tb]
structure TbOk (B H : Hp) : Prop where
  nt : ∀ a o, B a = some o → nT o
  tb : LamX.Tabs Tb.T H
theorem TbOk.keepH {B H H1 : Hp} (t : TbOk B H) (k : ∀ b o, H b = some o → H1 b = some o) : TbOk B H1 := ⟨t.nt, t.tb.ext k⟩
theorem TbOk.putB {B H : Hp} {p : Addr} {o : HO} (t : TbOk B H) (n : nT o) : TbOk (upd B p o) H := ⟨fun a u h => by
  by_cases z : a = p
  · rw [z, upd_same] at h
    cases h
    exact n
  · rw [upd_ne z] at h
    exact t.nt a u h, t.tb⟩
theorem TbOk.newH {B H : Hp} {p : Addr} {o : HO} (t : TbOk B H) (n : H p = none) : TbOk B (upd H p o) := t.keepH fun b u h => by rw [upd_ne (ne_of_none h n)]; exact h
theorem TbOk.newB {B H : Hp} {p : Addr} {o : HO} (t : TbOk B H) (n : H p = none) (k : nT o) : TbOk (upd B p o) (upd H p o) := (t.newH n).putB k
/-- what may be written: no table, no code object -/
def Wr (H : Hp) (p : Addr) : Prop := ∀ u, H p = some u → nT u ∧ ∀ c q, u ≠ LamX.CodeO c q
theorem Wr.none {H : Hp} {p : Addr} (n : H p = none) : Wr H p := fun u h => by rw [n] at h; cases h
theorem Wr.lst {H : Hp} {p : Addr} {xs : List V} (n : H p = some (.lst xs)) : Wr H p := fun u h => by
  rw [n] at h
  cases h
  exact ⟨nT_lst, fun c q z => by unfold LamX.CodeO at z; cases z⟩
theorem TbOk.put {B H : Hp} {p : Addr} {o : HO} (t : TbOk B H) (k : Wr H p) : TbOk B (upd H p o) := ⟨t.nt, fun x hx => by
  obtain ⟨ps, h1, h2, h3⟩ := t.tb x hx
  refine ⟨ps, by rw [upd_ne (fun z => (k _ (by rw [← z]; exact h1)).1 ps rfl)]; exact h1, h2, fun pos cv hc => ?_⟩
  obtain ⟨c, e1, e2⟩ := h3 pos cv hc
  exact ⟨c, e1, by rw [upd_ne (fun z => (k _ (by rw [← z]; exact e2)).2 _ _ rfl)]; exact e2⟩⟩
/-! ### states -/
/-- an exception: its class, what it keeps -/
structure Xc where
  cls : Addr
  fs : List (Str × D)
/-- what a slot holds: nothing that is known; a value; a list that no one else holds; the cup; the exception that is handled, where it lies -/
inductive Sl where
  | no | val (d : D) | own (ds : List D) | cup | xcp (x : Xc)
/-- what an expression has made: a value; the list of a slot; a new list; the cup -/
inductive Vw where
  | dat (d : D) | slot (i : Nat) | fr (ds : List D) | cup
/-- where the cup lies; the exception that is handled, and its dict -/
structure Cc where
  cup : Option Addr := none
  ex : Option (Addr × Value × Option Addr) := none
abbrev cN : Cc := {}
abbrev cC (a : Addr) : Cc := { cup := some a }
abbrev Cup := Int × Int × Int
structure S where
  env : List Sl
  cup : Cup
inductive Res (α : Type) where
  | ok (a : α) (s : S) | exc (x : Xc) (s : S) | bad
def Res.bind {α β : Type} (r : Res α) (f : α → S → Res β) : Res β := match r with
  | .ok a s => f a s
  | .exc x s => .exc x s
  | .bad => .bad
abbrev SE := S → Res Vw
inductive Out where
  | next | ret (d : D) | brk | cont
abbrev SS := S → Res Out

def isV : Sl → Bool
  | .val _ => true
  | .own _ => true
  | _ => false
def cupO (c : Cup) : HO := .lst [.int c.1, .int c.2.1, .int c.2.2]
section
variable (K : PySem.W.Frag) (c : Cc)
/-- how an exception lies -/
def XcOk (B H : Hp) (x : Xc) (cls : Value) (dd : Option Addr) : Prop := cls = .ref x.cls ∧ ((dd = none ∧ x.fs = []) ∨ ∃ d vs, dd = some d ∧ B d = some (.xd vs) ∧ DqFs K B vs x.fs)
def SlotOk (B H : Hp) (σ : L2.St) (i : Nat) : Sl → Prop
  | .no => True
  | .val d => ∃ v, σ[i]? = some (some v) ∧ Dq K B v d
  | .own ds => ∃ a vs, σ[i]? = some (some (.ref a)) ∧ B a = none ∧ H a = some (.lst vs) ∧ DqAll K B vs ds
  | .cup => ∃ a, c.cup = some a ∧ σ[i]? = some (some (.ref a))
  | .xcp x => ∃ a cl dd, c.ex = some (a, cl, dd) ∧ σ[i]? = some (some (.ref a)) ∧ XcOk K B H x cl dd
def Own (e : List Sl) (σ : L2.St) (a : Addr) : Prop := ∃ (i : Nat) (ds : List D), e[i]? = some (Sl.own ds) ∧ σ[i]? = some (some (V.ref a))
structure Sim (B H : Hp) (σ : L2.St) (s : S) : Prop where
  ex : Ex B H
  len : σ.length = s.env.length
  slot : ∀ i sl, s.env[i]? = some sl → SlotOk K c B H σ i sl
  dis : ∀ (i j : Nat) (ds es : List D) (a : Addr), s.env[i]? = some (Sl.own ds) → s.env[j]? = some (Sl.own es) → σ[i]? = some (some (V.ref a)) → σ[j]? = some (some (V.ref a)) → i = j
  cu : ∀ a, c.cup = some a → B a = none ∧ H a = some (cupO s.cup) ∧ ¬ Own s.env σ a
  tb : TbOk B H
/-- from one moment to a later one -/
structure Stp (B H : Hp) (σ : L2.St) (e : List Sl) (B' H' : Hp) (σ' : L2.St) (e' : List Sl) : Prop where
  bb : Ex B B'
  hh : ∀ a o, H a = some o → nT o → ¬ Own e σ a → c.cup ≠ some a → H' a = some o
  gr : ∀ a o, B' a = some o → B a ≠ none ∨ Nn H a ∨ Own e σ a
  ow : ∀ a, Own e' σ' a → Own e σ a ∨ Nn H a
  th : ∀ a o, H a = some o → nT o → ∃ o', H' a = some o' ∧ nT o'
def VwOk (B H : Hp) (σ : L2.St) (s : S) (v : V) : Vw → Prop
  | .dat d => Dq K B v d
  | .slot i => σ[i]? = some (some v) ∧ ∃ sl, s.env[i]? = some sl ∧ isV sl = true
  | .fr ds => ∃ p vs, v = .ref p ∧ B p = none ∧ H p = some (.lst vs) ∧ DqAll K B vs ds ∧ ¬ Own s.env σ p ∧ c.cup ≠ some p
  | .cup => ∃ a, c.cup = some a ∧ v = .ref a
end
section
variable {K : PySem.W.Frag} {c : Cc} {B H B1 H1 B2 H2 : Hp} {σ σ1 σ2 : L2.St} {s s1 s2 : S} {e e1 e2 : List Sl} {v : V} {w : Vw}
theorem Stp.refl : Stp c B H σ e B H σ e := ⟨Ex.refl B, fun _ _ h _ _ _ => h, fun a o h => .inl (by rw [h]; simp), fun _ h => .inl h, fun a o h t => ⟨o, h, t⟩⟩
theorem Stp.nn (p : Stp c B H σ e B1 H1 σ1 e1) {a : Addr} (n : Nn H1 a) : Nn H a := fun o h t => by
  obtain ⟨o', h', t'⟩ := p.th a o h t
  exact n o' h' t'
theorem Stp.trans (p : Stp c B H σ e B1 H1 σ1 e1) (q : Stp c B1 H1 σ1 e1 B2 H2 σ2 e2) : Stp c B H σ e B2 H2 σ2 e2 where
  bb := p.bb.trans q.bb
  hh := fun a o h t n k => q.hh a o (p.hh a o h t n k) t (fun z => (p.ow a z).elim n fun z => z o h t) k
  gr := fun a o h => by
    rcases q.gr a o h with z | z | z
    · cases e : B1 a with
      | none => exact absurd e z
      | some u => exact p.gr a u e
    · exact .inr (.inl (p.nn z))
    · rcases p.ow a z with y | y
      · exact .inr (.inr y)
      · exact .inr (.inl y)
  ow := fun a h => by
    rcases q.ow a h with z | z
    · exact p.ow a z
    · exact .inr (p.nn z)
  th := fun a o h t => by
    obtain ⟨u, h1, t1⟩ := p.th a o h t
    exact q.th a u h1 t1
/-- a new object of the data -/
theorem Stp.newB {p : Addr} {o : HO} (n : H p = none) (hB : B p = none) : Stp c B H σ e (upd B p o) (upd H p o) σ e where
  bb := Ex.new hB
  hh := fun a u h _ _ _ => by rw [upd_ne (ne_of_none h n)]; exact h
  gr := fun a u h => by
    by_cases z : a = p
    · rw [z]; exact .inr (.inl (.of n))
    · rw [upd_ne z] at h; exact .inl (by rw [h]; simp)
  ow := fun _ h => .inl h
  th := fun a u h t => ⟨u, by rw [upd_ne (ne_of_none h n)]; exact h, t⟩
/-- a new object besides -/
theorem Stp.newH {p : Addr} {o : HO} (n : H p = none) : Stp c B H σ e B (upd H p o) σ e where
  bb := Ex.refl B
  hh := fun a u h _ _ _ => by rw [upd_ne (ne_of_none h n)]; exact h
  gr := fun a u h => .inl (by rw [h]; simp)
  ow := fun _ h => .inl h
  th := fun a u h t => ⟨u, by rw [upd_ne (ne_of_none h n)]; exact h, t⟩
theorem Sim.bnone (I : Sim K c B H σ s) {p : Addr} (n : H p = none) : B p = none := by
  cases e : B p with
  | none => rfl
  | some o =>
    rw [I.ex p o e] at n
    cases n
theorem XcOk.mono {x : Xc} {cls : Value} {dd : Option Addr} (h : XcOk K B H x cls dd) (b : Ex B B1) : XcOk K B1 H1 x cls dd :=
  ⟨h.1, h.2.imp id fun ⟨d, vs, e, h1, h2⟩ => ⟨d, vs, e, b _ _ h1, h2.mono b⟩⟩
theorem SlotOk.mono {i : Nat} {sl : Sl} (h : SlotOk K c B H σ i sl) (b : Ex B B1) (hh : ∀ a o, H a = some o → nT o → H1 a = some o) (nb : ∀ (ds : List D) (a : Addr), sl = Sl.own ds → σ[i]? = some (some (V.ref a)) → B1 a = none) : SlotOk K c B1 H1 σ i sl := by
  cases sl with
  | no => trivial
  | val d => obtain ⟨v, h1, h2⟩ := h; exact ⟨v, h1, h2.mono b⟩
  | own ds => obtain ⟨a, vs, h1, h2, h3, h4⟩ := h; exact ⟨a, vs, h1, nb ds a rfl h1, hh _ _ h3 nT_lst, h4.mono b⟩
  | cup => exact h
  | xcp x => obtain ⟨a, cl, dd, q0, q1, q2⟩ := h; exact ⟨a, cl, dd, q0, q1, q2.mono b⟩
/-- a new object besides, or of the data -/
theorem Sim.newH (I : Sim K c B H σ s) {p : Addr} {o : HO} (n : H p = none) : Sim K c B (upd H p o) σ s where
  ex := fun a u h => by rw [upd_ne (ne_of_none (I.ex a u h) n)]; exact I.ex a u h
  len := I.len
  slot := fun i sl h => (I.slot i sl h).mono (Ex.refl B) (fun a u h _ => by rw [upd_ne (ne_of_none h n)]; exact h) fun ds a e h1 => by
    subst e
    obtain ⟨a', vs, q1, q2, _, _⟩ := I.slot i _ h
    rw [h1] at q1
    cases q1
    exact q2
  dis := I.dis
  cu := fun a h => by
    obtain ⟨h1, h2, h3⟩ := I.cu a h
    exact ⟨h1, by rw [upd_ne (ne_of_none h2 n)]; exact h2, h3⟩
  tb := I.tb.newH n
theorem Sim.ownB (I : Sim K c B H σ s) {i : Nat} {ds : List D} {a : Addr} (h : s.env[i]? = some (.own ds)) (h1 : σ[i]? = some (some (.ref a))) : B a = none ∧ ∃ vs, H a = some (.lst vs) ∧ DqAll K B vs ds := by
  obtain ⟨a', vs, q1, q2, q3, q4⟩ := I.slot i _ h
  rw [h1] at q1
  cases q1
  exact ⟨q2, vs, q3, q4⟩
theorem Sim.newB (I : Sim K c B H σ s) {p : Addr} {o : HO} (n : H p = none) (ho : nT o := by intro _ z; cases z) : Sim K c (upd B p o) (upd H p o) σ s where
  ex := fun a u h => by
    by_cases z : a = p
    · rw [z] at h ⊢
      rw [upd_same] at h ⊢
      exact h
    · rw [upd_ne z] at h ⊢
      exact I.ex a u h
  len := I.len
  slot := fun i sl h => (I.slot i sl h).mono (Ex.new (I.bnone n)) (fun a u h _ => by rw [upd_ne (ne_of_none h n)]; exact h) fun ds a e h1 => by
    subst e
    obtain ⟨q2, vs, q3, _⟩ := I.ownB h h1
    rw [upd_ne (ne_of_none q3 n)]
    exact q2
  dis := I.dis
  cu := fun a h => by
    obtain ⟨h1, h2, h3⟩ := I.cu a h
    exact ⟨by rw [upd_ne (ne_of_none h2 n)]; exact h1, by rw [upd_ne (ne_of_none h2 n)]; exact h2, h3⟩
  tb := I.tb.newB n ho
/-- an object that stood besides becomes data -/
theorem Sim.frB (I : Sim K c B H σ s) {p : Addr} {o : HO} (hp : H p = some o) (hB : B p = none) (no : ¬ Own s.env σ p) (nc : c.cup ≠ some p) (ho : nT o := by intro _ z; cases z) : Sim K c (upd B p o) H σ s where
  ex := fun a u h => by
    by_cases z : a = p
    · rw [z] at h ⊢
      rw [upd_same] at h
      rw [← h]; exact hp
    · rw [upd_ne z] at h
      exact I.ex a u h
  len := I.len
  slot := fun i sl h => (I.slot i sl h).mono (Ex.new hB) (fun a u h _ => h) fun ds a e h1 => by
    subst e
    obtain ⟨q2, vs, q3, _⟩ := I.ownB h h1
    rw [upd_ne (fun z => no ⟨i, ds, h, by rw [← z]; exact h1⟩)]
    exact q2
  dis := I.dis
  cu := fun a h => by
    obtain ⟨h1, h2, h3⟩ := I.cu a h
    exact ⟨by rw [upd_ne (fun z => nc (by rw [← z]; exact h))]; exact h1, h2, h3⟩
  tb := I.tb.putB ho
theorem VwOk.step (h : VwOk K c B H σ s v w) (t : Stp c B H σ s.env B1 H1 σ s1.env) (he : ∀ (i : Nat) (sl : Sl), s.env[i]? = some sl → isV sl = true → ∃ sl', s1.env[i]? = some sl' ∧ isV sl' = true) : VwOk K c B1 H1 σ s1 v w := by
  cases w with
  | dat d => exact Dq.mono t.bb h
  | slot i => obtain ⟨h1, sl, h2, h3⟩ := h; exact ⟨h1, he i sl h2 h3⟩
  | fr ds =>
    obtain ⟨p, vs, h1, h2, h3, h4, h5, h6⟩ := h
    refine ⟨p, vs, h1, ?_, t.hh _ _ h3 nT_lst h5 h6, h4.mono t.bb, fun z => ?_, h6⟩
    · cases e : B1 p with
      | none => rfl
      | some o =>
        rcases t.gr p o e with z | z | z
        · exact absurd h2 z
        · exact absurd nT_lst (z _ h3)
        · exact absurd z h5
    · rcases t.ow p z with y | y
      · exact h5 y
      · exact y _ h3 nT_lst
  | cup => exact h
/-- a slot's value stays one (expressions store nothing) -/
def Keep (s s1 : S) : Prop := ∀ (i : Nat) (sl : Sl), s.env[i]? = some sl → isV sl = true → ∃ sl', s1.env[i]? = some sl' ∧ isV sl' = true
theorem Keep.refl : Keep s s := fun _ sl h n => ⟨sl, h, n⟩
theorem Keep.trans (a : Keep s s1) (b : Keep s1 s2) : Keep s s2 := fun i sl h n => by
  obtain ⟨sl', h', n'⟩ := a i sl h n
  exact b i sl' h' n'
end

/-! ### readings -/
section
variable (K : PySem.W.Frag) (c : Cc)
/-- all that is true behind an expression -/
structure Aft (B H : Hp) (σ : L2.St) (s : S) (B' H' : Hp) (s' : S) : Prop where
  st : Stp c B H σ s.env B' H' σ s'.env
  si : Sim K c B' H' σ s'
  ke : Keep s s'
/-- a new list is new -/
def New (H : Hp) (v : V) : Vw → Prop
  | .fr _ => ∀ p, v = V.ref p → Nn H p
  | _ => True
def trE (E : XS) (se : SE) : TE := fun σ H Q => ∃ B s, Sim K c B H σ s ∧ match se s with
  | .ok w s' => ∀ v B' H', Aft K c B H σ s B' H' s' → VwOk K c B' H' σ s' v w → New H v w → Q v H'
  | .exc x s' => ∀ cls dd B' H', Aft K c B H σ s B' H' s' → XcOk K B' H' x cls dd → E σ cls dd H'
  | .bad => False
end
section
variable {K : PySem.W.Frag} {c : Cc} {B H B1 H1 B2 H2 : Hp} {σ σ1 σ2 : L2.St} {s s1 s2 : S} {v : V} {w : Vw}
theorem Aft.refl (I : Sim K c B H σ s) : Aft K c B H σ s B H s := ⟨.refl, I, .refl⟩
theorem Aft.trans (p : Aft K c B H σ s B1 H1 s1) (q : Aft K c B1 H1 σ s1 B2 H2 s2) : Aft K c B H σ s B2 H2 s2 := ⟨p.st.trans q.st, q.si, p.ke.trans q.ke⟩
theorem Aft.vw (p : Aft K c B H σ s B1 H1 s1) (h : VwOk K c B H σ s v w) : VwOk K c B1 H1 σ s1 v w := VwOk.step h p.st p.ke
theorem Aft.newB (I : Sim K c B H σ s) {p : Addr} {o : HO} (n : H p = none) (ho : nT o := by intro _ z; cases z) : Aft K c B H σ s (upd B p o) (upd H p o) s := ⟨.newB n (I.bnone n), I.newB n ho, .refl⟩
theorem Aft.newH (I : Sim K c B H σ s) {p : Addr} {o : HO} (n : H p = none) : Aft K c B H σ s B (upd H p o) s := ⟨.newH n, I.newH n, .refl⟩

/-! ### freezing, looking -/
def setSl (s : S) (i : Nat) (sl : Sl) : S := { s with env := s.env.set i sl }
/-- the value for keeps: a slot's own list is no longer its own -/
def frz (w : Vw) (s : S) : Res D := match w with
  | .dat d => .ok d s
  | .slot i => match s.env[i]? with
    | some (.val d) => .ok d s
    | some (.own ds) => .ok (.lst ds) (setSl s i (.val (.lst ds)))
    | _ => .bad
  | .fr ds => .ok (.lst ds) s
  | .cup => .bad
/-- the value as it is now -/
def peek (w : Vw) (s : S) : Option D := match w with
  | .dat d => some d
  | .slot i => match s.env[i]? with
    | some (.val d) => some d
    | some (.own ds) => some (.lst ds)
    | _ => none
  | .fr ds => some (.lst ds)
  | .cup => none
/-- how a value that is looked at lies: a list's items are data -/
def Pk (K : PySem.W.Frag) (B H : Hp) (v : V) : D → Prop
  | .lst ds => ∃ a vs, v = .ref a ∧ H a = some (.lst vs) ∧ DqAll K B vs ds
  | d => Dq K B v d
theorem Pk.of {d : D} (e : Ex B H) (h : Dq K B v d) : Pk K B H v d := by
  cases d with
  | lst ds => cases h with
    | lst a b => exact ⟨_, _, rfl, e _ _ a, b⟩
  | _ => exact h
theorem Pk.dq {d : D} (e : Ex B H) (h : Pk K B H v d) : Dq K H v d := by
  cases d with
  | lst ds =>
    obtain ⟨a, vs, rfl, h1, h2⟩ := h
    exact .lst h1 (h2.mono e)
  | _ => exact Dq.mono e h
theorem peek_ok (I : Sim K c B H σ s) {d : D} (h : VwOk K c B H σ s v w) (e : peek w s = some d) : Pk K B H v d := by
  cases w with
  | dat d' =>
    cases e
    exact Pk.of I.ex h
  | slot i =>
    obtain ⟨h1, sl, h2, _⟩ := h
    simp only [peek, h2] at e
    split at e
    · rename_i d' e2
      cases e
      obtain ⟨v', q1, q2⟩ := I.slot i _ (h2.trans e2)
      rw [h1] at q1
      cases q1
      exact Pk.of I.ex q2
    · rename_i ds e2
      cases e
      obtain ⟨a, vs, q1, q2, q3, q4⟩ := I.slot i _ (h2.trans e2)
      rw [h1] at q1
      cases q1
      exact ⟨a, vs, rfl, q3, q4⟩
    · cases e
  | fr ds =>
    cases e
    obtain ⟨p, vs, h1, h2, h3, h4, _⟩ := h
    exact ⟨p, vs, h1, h3, h4⟩
  | cup => cases e
theorem own_set {e : List Sl} {i : Nat} {sl : Sl} {a : Addr} (hs : ∀ ds, sl ≠ .own ds) (h : Own (e.set i sl) σ a) : Own e σ a := by
  obtain ⟨j, ds, h1, h2⟩ := h
  by_cases z : i = j
  · subst z
    rw [List.getElem?_set] at h1
    simp at h1
    exact absurd h1.2 (hs ds)
  · rw [List.getElem?_set_ne z] at h1
    exact ⟨j, ds, h1, h2⟩
theorem New.back {H0 H : Hp} (th : ∀ a o, H0 a = some o → nT o → ∃ o', H a = some o' ∧ nT o') (h : New H v w) : New H0 v w := by
  cases w with
  | fr ds =>
    intro p e o z t
    obtain ⟨o', z', t'⟩ := th p o z t
    exact h p e o' z' t'
  | _ => trivial
/-- a slot's own list becomes a value -/
theorem own_frz (I : Sim K c B H σ s) {i : Nat} {ds : List D} {a : Addr} (hi : s.env[i]? = some (Sl.own ds)) (h1 : σ[i]? = some (some (V.ref a))) : ∃ B1, Aft K c B H σ s B1 H (setSl s i (.val (.lst ds))) ∧ Dq K B1 (.ref a) (.lst ds) := by
  obtain ⟨q2, vs, q3, q4⟩ := I.ownB hi h1
  have nown : ¬ Own (s.env.set i (.val (.lst ds))) σ a := fun ⟨j, es, z1, z2⟩ => by
    by_cases z : i = j
    · subst z
      rw [List.getElem?_set] at z1
      simp at z1
    · rw [List.getElem?_set_ne z] at z1
      exact z (I.dis i j ds es a hi z1 h1 z2)
  have hlen : i < s.env.length := (List.getElem?_eq_some_iff.mp hi).1
  have dq : Dq K (upd B a (.lst vs)) (.ref a) (.lst ds) := .lst upd_same (q4.mono (Ex.new q2))
  have ncup : c.cup ≠ some a := fun z => (I.cu a z).2.2 ⟨i, ds, hi, h1⟩
  refine ⟨upd B a (.lst vs), ⟨⟨Ex.new q2, fun _ _ h _ _ _ => h, fun b o hb => ?_, fun b hb => .inl (own_set (by intro _ z; cases z) hb), fun b o h t => ⟨o, h, t⟩⟩, ⟨fun b o hb => ?_, by simpa [setSl] using I.len, fun j sl' hj => ?_, fun j k ds' es' b hj hk => ?_, fun b hb => ?_, I.tb.putB nT_lst⟩, fun j sl' hj n => ?_⟩, dq⟩
  · by_cases z : b = a
    · rw [z]; exact .inr (.inr ⟨i, ds, hi, h1⟩)
    · rw [upd_ne z] at hb; exact .inl (by rw [hb]; simp)
  · by_cases z : b = a
    · rw [z] at hb ⊢; rw [upd_same] at hb; rw [← hb]; exact q3
    · rw [upd_ne z] at hb; exact I.ex b o hb
  · by_cases z : i = j
    · subst z
      have : sl' = .val (.lst ds) := by
        have z := hj
        simp only [setSl] at z
        rw [List.getElem?_set] at z
        simp [hlen] at z
        exact z.symm
      subst this
      exact ⟨.ref a, h1, dq⟩
    · have hj' : s.env[j]? = some sl' := by
        simp only [setSl] at hj
        rw [List.getElem?_set_ne z] at hj
        exact hj
      refine (I.slot j sl' hj').mono (Ex.new q2) (fun _ _ h _ => h) fun es b eq hb => ?_
      subst eq
      obtain ⟨r2, _⟩ := I.ownB hj' hb
      rw [upd_ne (fun z' => z (I.dis i j ds es a hi hj' h1 (by rw [← z']; exact hb)))]
      exact r2
  · simp only [setSl] at hj hk
    by_cases z : i = j
    · subst z; rw [List.getElem?_set] at hj; simp at hj
    · by_cases z' : i = k
      · subst z'; rw [List.getElem?_set] at hk; simp at hk
      · rw [List.getElem?_set_ne z] at hj
        rw [List.getElem?_set_ne z'] at hk
        exact I.dis j k ds' es' b hj hk
  · obtain ⟨r1, r2, r3⟩ := I.cu b hb
    refine ⟨?_, r2, fun z => r3 (own_set (by intro _ z; cases z) z)⟩
    rw [upd_ne (fun z => ncup (by rw [← z]; exact hb))]
    exact r1
  · simp only [setSl]
    by_cases z : i = j
    · subst z
      exact ⟨.val (.lst ds), by rw [List.getElem?_set_self hlen], rfl⟩
    · exact ⟨sl', by rw [List.getElem?_set_ne z]; exact hj, n⟩
theorem frz_ok {B0 H0 : Hp} {s0 : S} (A : Aft K c B0 H0 σ s0 B H s) {d : D} (h : VwOk K c B H σ s v w) (n : New H0 v w) (e : frz w s = .ok d s1) : ∃ B1, Aft K c B0 H0 σ s0 B1 H s1 ∧ Dq K B1 v d := by
  have I := A.si
  cases w with
  | dat d' =>
    simp only [frz, Res.ok.injEq] at e
    obtain ⟨rfl, rfl⟩ := e
    exact ⟨B, A, h⟩
  | slot i =>
    obtain ⟨h1, sl, h2, _⟩ := h
    simp only [frz, h2] at e
    split at e
    · rename_i d' e2
      simp only [Res.ok.injEq] at e
      obtain ⟨rfl, rfl⟩ := e
      obtain ⟨v', q1, q2⟩ := I.slot i _ (h2.trans e2)
      rw [h1] at q1
      cases q1
      exact ⟨B, A, q2⟩
    · rename_i ds e2
      simp only [Res.ok.injEq] at e
      obtain ⟨rfl, rfl⟩ := e
      have hi : s.env[i]? = some (.own ds) := h2.trans e2
      obtain ⟨a, vs, q1, q2, q3, q4⟩ := I.slot i _ hi
      rw [h1] at q1
      cases q1
      obtain ⟨B1, A1, dq⟩ := own_frz I hi h1
      exact ⟨B1, A.trans A1, dq⟩
    · cases e
  | fr ds =>
    simp only [frz, Res.ok.injEq] at e
    obtain ⟨rfl, rfl⟩ := e
    obtain ⟨p, vs, rfl, h2, h3, h4, h5, h6⟩ := h
    have n0 : Nn H0 p := n p rfl
    refine ⟨upd B p (.lst vs), ⟨⟨A.st.bb.trans (Ex.new h2), A.st.hh, fun a o hb => ?_, A.st.ow, A.st.th⟩, I.frB h3 h2 h5 h6, A.ke⟩, .lst upd_same (h4.mono (Ex.new h2))⟩
    by_cases z : a = p
    · rw [z]; exact .inr (.inl n0)
    · rw [upd_ne z] at hb; exact A.st.gr a o hb
  | cup => simp [frz] at e
end
end Eng

namespace Eng
open PySem PySem.Spec PyProof.Rows L2 Evl
variable [Tb]

theorem pe_imp {X : Cx} {e : Expr} {t t' : TE} (h : PE X e t) (i : ∀ σ H Q, t' σ H Q → t σ H Q) : PE X e t' := ⟨fun pins s σ H Q I q => h.run pins s σ H Q I (i σ H Q q)⟩
theorem pt_imp {X : Cx} {e : Expr} {t t' : TT} (h : PT X e t) (i : ∀ σ H Q, t' σ H Q → t σ H Q) : PT X e t' := ⟨fun pins s σ H Q I q => h.run pins s σ H Q I (i σ H Q q)⟩
theorem pa_imp {X : Cx} {e : List Expr} {t t' : TA} (h : PA X e t) (i : ∀ σ H Q, t' σ H Q → t σ H Q) : PA X e t' := ⟨fun pos pins s σ H Q I q => h.run pos pins s σ H Q I (i σ H Q q)⟩
theorem ps_imp {X : Cx} {e : Stmt} {t t' : TS} (h : PS X e t) (i : ∀ D σ H, t' D σ H → t D σ H) : PS X e t' := ⟨fun pins s σ H D I q => h.run pins s σ H D I (i D σ H q)⟩
theorem pss_imp {X : Cx} {e : List Stmt} {t t' : TS} (h : PSs X e t) (i : ∀ D σ H, t' D σ H → t D σ H) : PSs X e t' := ⟨fun pins s σ H D I q => h.run pins s σ H D I (i D σ H q)⟩

section
variable (K : PySem.W.Frag) (c : Cc) (E : XS) (B0 H0 : Hp) (σ : L2.St) (s0 : S)
/-- what is due behind an outcome; the beginning is told -/
def XPost (x : Xc) (s' : S) : Prop := ∀ cls dd B' H', Aft K c B0 H0 σ s0 B' H' s' → XcOk K B' H' x cls dd → E σ cls dd H'
def Post (r : Res Vw) (Q : VK) : Prop := match r with
  | .ok w s' => ∀ v B' H', Aft K c B0 H0 σ s0 B' H' s' → VwOk K c B' H' σ s' v w → New H0 v w → Q v H'
  | .exc x s' => XPost K c E B0 H0 σ s0 x s'
  | .bad => False
def PostB (r : Res Bool) (Q : Bool → Hp → Prop) : Prop := match r with
  | .ok b s' => ∀ B' H', Aft K c B0 H0 σ s0 B' H' s' → Q b H'
  | .exc x s' => XPost K c E B0 H0 σ s0 x s'
  | .bad => False
/-- values for keeps -/
def PostD (r : Res (List D)) (Q : List V → Hp → Prop) : Prop := match r with
  | .ok ds s' => ∀ vs B' H', Aft K c B0 H0 σ s0 B' H' s' → DqAll K B' vs ds → Q vs H'
  | .exc x s' => XPost K c E B0 H0 σ s0 x s'
  | .bad => False
end
abbrev SB := S → Res Bool
abbrev SA := S → Res (List D)
def trT (K : PySem.W.Frag) (c : Cc) (E : XS) (se : SB) : TT := fun σ H Q => ∃ B s, Sim K c B H σ s ∧ PostB K c E B H σ s (se s) Q
def trA (K : PySem.W.Frag) (c : Cc) (E : XS) (se : SA) : TA := fun σ H Q => ∃ B s, Sim K c B H σ s ∧ PostD K c E B H σ s (se s) Q
/-- the judgements -/
abbrev JE (X : Cx) (c : Cc) (E : XS) (e : Expr) (se : SE) : Prop := PE X e (trE X.K c E se)
abbrev JT (X : Cx) (c : Cc) (E : XS) (e : Expr) (se : SB) : Prop := PT X e (trT X.K c E se)
abbrev JA (X : Cx) (c : Cc) (E : XS) (e : List Expr) (se : SA) : Prop := PA X e (trA X.K c E se)

section
variable {K : PySem.W.Frag} {c : Cc} {E : XS} {B H B0 H0 B1 H1 : Hp} {σ : L2.St} {s s0 s1 : S} {v : V} {w : Vw} {Q : VK}
theorem tr_of {se : SE} (I : Sim K c B H σ s) (h : Post K c E B H σ s (se s) Q) : trE K c E se σ H Q := ⟨B, s, I, by
  revert h
  unfold Post
  cases se s <;> exact fun h => h⟩
theorem of_tr {se : SE} (h : trE K c E se σ H Q) : ∃ B s, Sim K c B H σ s ∧ Post K c E B H σ s (se s) Q := by
  obtain ⟨B, s, I, h⟩ := h
  refine ⟨B, s, I, ?_⟩
  revert h
  unfold Post
  cases se s <;> exact fun h => h
theorem XPost.more (A : Aft K c B0 H0 σ s0 B H s) {x : Xc} (h : XPost K c E B0 H0 σ s0 x s1) : XPost K c E B H σ s x s1 := fun cls dd B' H' A' q => h cls dd B' H' (A.trans A') q
/-- an expression, then the rest -/
theorem bindE {α : Type} {se : SE} {k : Vw → S → Res α} {P : Res α → Prop} (A : Aft K c B0 H0 σ s0 B H s) (h : P ((se s).bind k)) (hx : ∀ x s', P (.exc x s') → XPost K c E B0 H0 σ s0 x s') (hb : ¬ P .bad) :
    trE K c E se σ H fun x H1 => ∃ B1 s1 w, Aft K c B0 H0 σ s0 B1 H1 s1 ∧ Aft K c B H σ s B1 H1 s1 ∧ VwOk K c B1 H1 σ s1 x w ∧ New H x w ∧ P (k w s1) := by
  refine tr_of A.si ?_
  cases e : se s with
  | ok w s1 =>
    rw [e] at h
    exact fun v B' H' A' V N => ⟨B', s1, w, A.trans A', A', V, N, h⟩
  | exc x s1 =>
    rw [e] at h
    exact (hx x s1 h).more A
  | bad =>
    rw [e] at h
    exact absurd h hb
theorem bindT {α : Type} {se : SB} {k : Bool → S → Res α} {P : Res α → Prop} (A : Aft K c B0 H0 σ s0 B H s) (h : P ((se s).bind k)) (hx : ∀ x s', P (.exc x s') → XPost K c E B0 H0 σ s0 x s') (hb : ¬ P .bad) :
    trT K c E se σ H fun b H1 => ∃ B1 s1, Aft K c B0 H0 σ s0 B1 H1 s1 ∧ P (k b s1) := by
  refine ⟨B, s, A.si, ?_⟩
  cases e : se s with
  | ok b s1 =>
    rw [e] at h
    exact fun B' H' A' => ⟨B', s1, A.trans A', h⟩
  | exc x s1 =>
    rw [e] at h
    exact (hx x s1 h).more A
  | bad =>
    rw [e] at h
    exact absurd h hb
theorem bindA {α : Type} {se : SA} {k : List D → S → Res α} {P : Res α → Prop} (A : Aft K c B0 H0 σ s0 B H s) (h : P ((se s).bind k)) (hx : ∀ x s', P (.exc x s') → XPost K c E B0 H0 σ s0 x s') (hb : ¬ P .bad) :
    trA K c E se σ H fun vs H1 => ∃ B1 s1 ds, Aft K c B0 H0 σ s0 B1 H1 s1 ∧ Aft K c B H σ s B1 H1 s1 ∧ DqAll K B1 vs ds ∧ P (k ds s1) := by
  refine ⟨B, s, A.si, ?_⟩
  cases e : se s with
  | ok ds s1 =>
    rw [e] at h
    exact fun vs B' H' A' q => ⟨B', s1, ds, A.trans A', A', q, h⟩
  | exc x s1 =>
    rw [e] at h
    exact (hx x s1 h).more A
  | bad =>
    rw [e] at h
    exact absurd h hb
theorem post_x {x : Xc} {s' : S} (h : Post K c E B0 H0 σ s0 (.exc x s') Q) : XPost K c E B0 H0 σ s0 x s' := h
theorem post_b : ¬ Post K c E B0 H0 σ s0 .bad Q := id
theorem postB_x {x : Xc} {s' : S} {Q : Bool → Hp → Prop} (h : PostB K c E B0 H0 σ s0 (.exc x s') Q) : XPost K c E B0 H0 σ s0 x s' := h
theorem postB_b {Q : Bool → Hp → Prop} : ¬ PostB K c E B0 H0 σ s0 .bad Q := id
theorem postD_x {x : Xc} {s' : S} {Q : List V → Hp → Prop} (h : PostD K c E B0 H0 σ s0 (.exc x s') Q) : XPost K c E B0 H0 σ s0 x s' := h
theorem postD_b {Q : List V → Hp → Prop} : ¬ PostD K c E B0 H0 σ s0 .bad Q := id
theorem bindEP {se : SE} {k : Vw → S → Res Vw} (A : Aft K c B0 H0 σ s0 B H s) (h : Post K c E B0 H0 σ s0 ((se s).bind k) Q) :
    trE K c E se σ H fun x H1 => ∃ B1 s1 w, Aft K c B0 H0 σ s0 B1 H1 s1 ∧ Aft K c B H σ s B1 H1 s1 ∧ VwOk K c B1 H1 σ s1 x w ∧ New H x w ∧ Post K c E B0 H0 σ s0 (k w s1) Q :=
  bindE (P := fun r => Post K c E B0 H0 σ s0 r Q) A h (fun _ _ q => q) id
theorem bindTP {se : SB} {k : Bool → S → Res Vw} (A : Aft K c B0 H0 σ s0 B H s) (h : Post K c E B0 H0 σ s0 ((se s).bind k) Q) :
    trT K c E se σ H fun b H1 => ∃ B1 s1, Aft K c B0 H0 σ s0 B1 H1 s1 ∧ Post K c E B0 H0 σ s0 (k b s1) Q :=
  bindT (P := fun r => Post K c E B0 H0 σ s0 r Q) A h (fun _ _ q => q) id
theorem bindAP {se : SA} {k : List D → S → Res Vw} (A : Aft K c B0 H0 σ s0 B H s) (h : Post K c E B0 H0 σ s0 ((se s).bind k) Q) :
    trA K c E se σ H fun vs H1 => ∃ B1 s1 ds, Aft K c B0 H0 σ s0 B1 H1 s1 ∧ Aft K c B H σ s B1 H1 s1 ∧ DqAll K B1 vs ds ∧ Post K c E B0 H0 σ s0 (k ds s1) Q :=
  bindA (P := fun r => Post K c E B0 H0 σ s0 r Q) A h (fun _ _ q => q) id
/-- monotone in the end -/
theorem trE_mono {se : SE} {Q' : VK} (h : trE K c E se σ H Q) (q : ∀ v H', Q v H' → Q' v H') : trE K c E se σ H Q' := by
  obtain ⟨B, s, I, h⟩ := of_tr h
  refine tr_of I ?_
  revert h
  unfold Post
  cases se s with
  | ok w s' => exact fun h v B' H' A V N => q _ _ (h v B' H' A V N)
  | exc x s' => exact fun h => h
  | bad => exact fun h => h
theorem trT_mono {se : SB} {Q Q' : Bool → Hp → Prop} (h : trT K c E se σ H Q) (q : ∀ v H', Q v H' → Q' v H') : trT K c E se σ H Q' := by
  obtain ⟨B, s, I, h⟩ := h
  refine ⟨B, s, I, ?_⟩
  revert h
  unfold PostB
  cases se s with
  | ok w s' => exact fun h B' H' A => q _ _ (h B' H' A)
  | exc x s' => exact fun h => h
  | bad => exact fun h => h
theorem trA_mono {se : SA} {Q Q' : List V → Hp → Prop} (h : trA K c E se σ H Q) (q : ∀ v H', Q v H' → Q' v H') : trA K c E se σ H Q' := by
  obtain ⟨B, s, I, h⟩ := h
  refine ⟨B, s, I, ?_⟩
  revert h
  unfold PostD
  cases se s with
  | ok w s' => exact fun h vs B' H' A V => q _ _ (h vs B' H' A V)
  | exc x s' => exact fun h => h
  | bad => exact fun h => h

/-! ### what an operation makes -/
inductive Made (K : PySem.W.Frag) (B H : Hp) : Hp → Hp → V → Vw → Prop
  | old {v : V} {d : D} : Dq K B v d → Made K B H B H v (.dat d)
  | data {p : Addr} {o : HO} {d : D} : H p = none → Dq K (upd B p o) (.ref p) d → (ho : nT o := by intro _ z; cases z) → Made K B H (upd B p o) (upd H p o) (.ref p) (.dat d)
  | list {p : Addr} {vs : List V} {ds : List D} : H p = none → DqAll K B vs ds → Made K B H B (upd H p (.lst vs)) (.ref p) (.fr ds)
theorem Made.aft (A : Aft K c B0 H0 σ s0 B H s) (m : Made K B H B1 H1 v w) : Aft K c B0 H0 σ s0 B1 H1 s ∧ VwOk K c B1 H1 σ s v w ∧ New H0 v w := by
  have I := A.si
  cases m with
  | old h => exact ⟨A, h, trivial⟩
  | data n h ho => exact ⟨A.trans (.newB I n ho), h, trivial⟩
  | list n h =>
    rename_i p vs ds
    refine ⟨A.trans (.newH I n), ⟨p, vs, rfl, I.bnone n, upd_same, h, fun ⟨i, es, z1, z2⟩ => ?_, fun z => ?_⟩, New.back A.st.th (w := .fr ds) fun q e => ?_⟩
    · obtain ⟨_, vs', q3, _⟩ := I.ownB z1 z2
      rw [n] at q3
      cases q3
    · obtain ⟨_, q, _⟩ := I.cu p z
      rw [n] at q
      cases q
    · cases e
      exact .of n
/-- two operands -/
def sOp2 (f : D → D → Option Vw) (sa sb : SE) : SE := fun s => (sa s).bind fun w1 s1 => (sb s1).bind fun w2 s2 => match peek w1 s2, peek w2 s2 with
  | some d1, some d2 => (match f d1 d2 with
    | some r => .ok r s2
    | none => .bad)
  | _, _ => .bad
def sOp1 (f : D → Option Vw) (sa : SE) : SE := fun s => (sa s).bind fun w1 s1 => match peek w1 s1 with
  | some d1 => (match f d1 with
    | some r => .ok r s1
    | none => .bad)
  | _ => .bad
def RO2 (K : PySem.W.Frag) (r : R2) (f : D → D → Option Vw) : Prop := ∀ (B H : Hp) (x y : V) (d1 d2 : D) (w : Vw), Ex B H → Pk K B H x d1 → Pk K B H y d2 → f d1 d2 = some w → ∀ Q : VK, (∀ v B' H', Made K B H B' H' v w → Q v H') → r x y H Q
def RO1 (K : PySem.W.Frag) (r : V → Hp → VK → Prop) (f : D → Option Vw) : Prop := ∀ (B H : Hp) (x : V) (d1 : D) (w : Vw), Ex B H → Pk K B H x d1 → f d1 = some w → ∀ Q : VK, (∀ v B' H', Made K B H B' H' v w → Q v H') → r x H Q
theorem op2_run {r : R2} {f : D → D → Option Vw} {sa sb : SE} (h : RO2 K r f) (q : trE K c E (sOp2 f sa sb) σ H Q) : tOp r (trE K c E sa) (trE K c E sb) σ H Q := by
  obtain ⟨B, s, I, q⟩ := of_tr q
  refine trE_mono (bindEP (.refl I) q) fun x H1 ⟨B1, s1, w1, A1, A1', V1, N1, q1⟩ => ?_
  refine trE_mono (bindEP A1 q1) fun y H2 ⟨B2, s2, w2, A2, A2', V2, N2, q2⟩ => ?_
  have V1' := A2'.vw V1
  cases e1 : peek w1 s2 with
  | none => simp only [e1] at q2; exact q2.elim
  | some d1 =>
    cases e2 : peek w2 s2 with
    | none => simp only [e1, e2] at q2; exact q2.elim
    | some d2 =>
      simp only [e1, e2] at q2
      cases e3 : f d1 d2 with
      | none => simp only [e3] at q2; exact q2.elim
      | some w =>
        simp only [e3] at q2
        refine h B2 H2 x y d1 d2 w A2.si.ex (peek_ok A2.si V1' e1) (peek_ok A2.si V2 e2) e3 Q fun v B' H' m => ?_
        obtain ⟨a, b, n⟩ := m.aft A2
        exact q2 v B' H' a b n
theorem op1_run {r : V → Hp → VK → Prop} {f : D → Option Vw} {sa : SE} (h : RO1 K r f) (q : trE K c E (sOp1 f sa) σ H Q) : tUn r (trE K c E sa) σ H Q := by
  obtain ⟨B, s, I, q⟩ := of_tr q
  refine trE_mono (bindEP (.refl I) q) fun x H1 ⟨B1, s1, w1, A1, A1', V1, N1, q1⟩ => ?_
  cases e1 : peek w1 s1 with
  | none => simp only [e1] at q1; exact q1.elim
  | some d1 =>
    simp only [e1] at q1
    cases e3 : f d1 with
    | none => simp only [e3] at q1; exact q1.elim
    | some w =>
      simp only [e3] at q1
      refine h B1 H1 x d1 w A1.si.ex (peek_ok A1.si V1 e1) e3 Q fun v B' H' m => ?_
      obtain ⟨a, b, n⟩ := m.aft A1
      exact q1 v B' H' a b n
end

/-! ### names and constants -/
def sVar (i : Nat) : SE := fun s => match s.env[i]? with
  | some (.val d) => .ok (.dat d) s
  | some (.own _) => .ok (.slot i) s
  | some .cup => .ok .cup s
  | _ => .bad
def sC (d : D) : SE := fun s => .ok (.dat d) s
section
variable {X : Cx} {c : Cc} {E : XS} {pos : Pos}
theorem je_var (i : Nat) {x : Str} (hN : X.N[i]? = some x := by rfl) (hv : Vis X.env.scope x := by first | exact Or.inl rfl | exact Or.inr (Or.inl rfl) | exact Or.inr (Or.inr rfl)) (hd : (x == ("__debug__" : Str)) = false := by decide)
    (hcd : (x == ("__classdict__" : Str)) = false := by decide) : JE X c E (.Name x pos) (sVar i) := by
  refine pe_imp (pe_var hN hv hd hcd) fun σ H Q h => ?_
  obtain ⟨B, s, I, q⟩ := of_tr h
  unfold sVar at q
  cases e : s.env[i]? with
  | none => simp only [e] at q; exact q.elim
  | some sl =>
    cases sl with
    | no => simp only [e] at q; exact q.elim
    | val d =>
      simp only [e] at q
      obtain ⟨v, h1, h2⟩ := I.slot i _ e
      exact ⟨v, h1, q v B H (.refl I) h2 trivial⟩
    | own ds =>
      simp only [e] at q
      obtain ⟨a, vs, h1, h2, h3, h4⟩ := I.slot i _ e
      exact ⟨_, h1, q _ B H (.refl I) ⟨h1, _, e, rfl⟩ trivial⟩
    | xcp x => simp only [e] at q; exact q.elim
    | cup =>
      simp only [e] at q
      obtain ⟨a, h1, h2⟩ := I.slot i _ e
      exact ⟨_, h2, q _ B H (.refl I) ⟨a, h1, rfl⟩ trivial⟩
theorem je_of_c {e : Expr} {v : V} {d : D} (h : PE X e (tC v)) (hd : ∀ K H, Dq K H v d) : JE X c E e (sC d) := pe_imp h fun σ H Q q => by
  obtain ⟨B, s, I, q⟩ := of_tr q
  exact q v B H (.refl I) (hd _ _) trivial
theorem je_int {i : Int} {j} : JE X c E (.Constant (.int i) j pos) (sC (.int i)) := je_of_c pe_int fun _ _ => .int i
theorem je_bl {b : Bool} {j} : JE X c E (.Constant (.bool b) j pos) (sC (.bl b)) := je_of_c pe_bl fun _ _ => .bl b
theorem je_non {j} : JE X c E (.Constant .none j pos) (sC .non) := je_of_c pe_non fun _ _ => .non
theorem je_str {x : Str} {j} : JE X c E (.Constant (.str x) j pos) (sC (.str x)) := je_of_c pe_str fun _ _ => .str x
theorem je_glob {x : Str} {i : Int} {t : Tok} (hm : X.mg x = some (.int i t)) (hg : Gl X x := by rfl) (hd : (x == ("__debug__" : Str)) = false := by decide) : JE X c E (.Name x pos) (sC (.int i)) := je_of_c (pe_glob (v := .int i) hg hm ⟨t, rfl⟩ hd) fun _ _ => .int i
/-! ### operators -/
theorem je_bin {op : Operator} {r : R2} {f : D → D → Option Vw} {a b : Expr} {sa sb : SE} (ho : OpR X (binaryOp op) r) (h : RO2 X.K r f) (ha : JE X c E a sa) (hb : JE X c E b sb) : JE X c E (.BinOp a op b pos) (sOp2 f sa sb) :=
  pe_imp (pe_op ho ha hb) fun _ _ _ q => op2_run h q
theorem je_un {op : UnaryOp} {r : V → Hp → VK → Prop} {f : D → Option Vw} {a : Expr} {sa : SE} (ho : UnR X (unaryOp op) r) (h : RO1 X.K r f) (ha : JE X c E a sa) : JE X c E (.UnaryOp op a pos) (sOp1 f sa) :=
  pe_imp (pe_un ho ha) fun _ _ _ q => op1_run h q
theorem je_cmp {op : CmpOp} {r : R2} {f : D → D → Option Vw} {a b : Expr} {sa sb : SE} (ho : OpR X (compareOp op) r) (h : RO2 X.K r f) (ha : JE X c E a sa) (hb : JE X c E b sb) (hm : behindInMarks op b = false) : JE X c E (.Compare a [op] [b] pos) (sOp2 f sa sb) :=
  pe_imp (pe_cmpR ho ha hb hm) fun _ _ _ q => op2_run h q
theorem je_ix {r : R2} {f : D → D → Option Vw} {a b : Expr} {sa sb : SE} (ho : IxR X r) (h : RO2 X.K r f) (ha : JE X c E a sa) (hb : JE X c E b sb) (hs : PlainIx b := by intro _ _; rfl) : JE X c E (.Subscript a b pos) (sOp2 f sa sb) :=
  pe_imp (pe_ix ho ha hb hs) fun _ _ _ q => op2_run h q
/-- a value that is a bool, as a test -/
def sB (se : SE) : SB := fun s => (se s).bind fun w s1 => match w with
  | .dat (.bl b) => .ok b s1
  | _ => .bad
theorem tB_run {K : PySem.W.Frag} {σ : L2.St} {H : Hp} {se : SE} {Q : Bool → Hp → Prop} (q : trT K c E (sB se) σ H Q) : trE K c E se σ H fun x H1 => ∃ k, x = .bl k ∧ Q k H1 := by
  obtain ⟨B, s, I, q⟩ := q
  refine trE_mono (bindE (P := fun r => PostB K c E B H σ s r Q) (.refl I) q (fun _ _ q => q) id) fun x H1 ⟨B1, s1, w1, A1, A1', V1, N1, q1⟩ => ?_
  cases w1 with
  | dat d =>
    cases d with
    | bl b =>
      cases V1
      exact ⟨b, rfl, q1 B1 H1 A1⟩
    | _ => exact q1.elim
  | _ => exact q1.elim
theorem jt_val {e : Expr} {se : SE} (h : JE X c E e se) (he : ∀ whole, isTrue e X.env whole = (do let v ← whole; standAt e.pos; holding [v] (truthy v)) := by intro _; rfl) : JT X c E e (sB se) :=
  pt_imp (pt_val h he) fun _ _ _ q => tB_run q
theorem jt_cmp {op : CmpOp} {r : R2} {f : D → D → Option Vw} {a b : Expr} {sa sb : SE} (ho : OpR X (compareOp op) r) (h : RO2 X.K r f) (ha : JE X c E a sa) (hb : JE X c E b sb) (hm : behindInMarks op b = false) : JT X c E (.Compare a [op] [b] pos) (sB (sOp2 f sa sb)) :=
  pt_imp (pt_cmpR ho ha hb hm) fun _ _ _ q => op2_run h (tB_run q)
def sNot (st : SB) : SB := fun s => (st s).bind fun b s1 => .ok (!b) s1
def sAnd (st su : SB) : SB := fun s => (st s).bind fun b s1 => match b with
  | true => su s1
  | false => .ok false s1
def sOr (st su : SB) : SB := fun s => (st s).bind fun b s1 => match b with
  | true => .ok true s1
  | false => su s1
theorem aft_postB {K : PySem.W.Frag} {B0 H0 B H : Hp} {σ : L2.St} {s0 s : S} {r : Res Bool} {Q : Bool → Hp → Prop} (A : Aft K c B0 H0 σ s0 B H s) (h : PostB K c E B0 H0 σ s0 r Q) : PostB K c E B H σ s r Q := by
  cases r with
  | ok b s' => exact fun B' H' A' => h B' H' (A.trans A')
  | exc x s' => exact XPost.more A h
  | bad => exact h
theorem aft_post {K : PySem.W.Frag} {B0 H0 B H : Hp} {σ : L2.St} {s0 s : S} {r : Res Vw} {Q : VK} (A : Aft K c B0 H0 σ s0 B H s) (h : Post K c E B0 H0 σ s0 r Q) : Post K c E B H σ s r Q := by
  cases r with
  | ok b s' => exact fun v B' H' A' V N => h v B' H' (A.trans A') V (N.back A.st.th)
  | exc x s' => exact XPost.more A h
  | bad => exact h
theorem and_run {K : PySem.W.Frag} {σ : L2.St} {H : Hp} {st su : SB} {Q : Bool → Hp → Prop} (q : trT K c E (sAnd st su) σ H Q) : tAnd (trT K c E st) (trT K c E su) σ H Q := by
  obtain ⟨B, s, I, q⟩ := q
  refine trT_mono (bindT (P := fun r => PostB K c E B H σ s r Q) (.refl I) q (fun _ _ q => q) id) fun b H1 ⟨B1, s1, A1, q1⟩ => ?_
  cases b with
  | true => exact iteT ⟨B1, s1, A1.si, aft_postB A1 q1⟩
  | false => exact iteF (q1 B1 H1 A1)
theorem or_run {K : PySem.W.Frag} {σ : L2.St} {H : Hp} {st su : SB} {Q : Bool → Hp → Prop} (q : trT K c E (sOr st su) σ H Q) : tOr (trT K c E st) (trT K c E su) σ H Q := by
  obtain ⟨B, s, I, q⟩ := q
  refine trT_mono (bindT (P := fun r => PostB K c E B H σ s r Q) (.refl I) q (fun _ _ q => q) id) fun b H1 ⟨B1, s1, A1, q1⟩ => ?_
  cases b with
  | true => exact iteT (q1 B1 H1 A1)
  | false => exact iteF ⟨B1, s1, A1.si, aft_postB A1 q1⟩
theorem jt_not {a : Expr} {st : SB} (h : JT X c E a st) : JT X c E (.UnaryOp .Not a pos) (sNot st) := pt_imp (pt_not h) fun σ H Q q => by
  obtain ⟨B, s, I, q⟩ := q
  exact trT_mono (bindT (P := fun r => PostB X.K c E B H σ s r Q) (.refl I) q (fun _ _ q => q) id) fun b H1 ⟨B1, s1, A1, q1⟩ => q1 B1 H1 A1
/-- chains of and, or, as tests -/
abbrev JW (X : Cx) (c : Cc) (E : XS) (e : Expr) (se : SB) : Prop := PW X e (trT X.K c E se)
theorem pw_imp {X : Cx} {e : Expr} {t t' : TT} (h : PW X e t) (i : ∀ σ H Q, t' σ H Q → t σ H Q) : PW X e t' := ⟨fun wh pins s σ H Q I q => h.run wh pins s σ H Q I (i σ H Q q)⟩
theorem jw_and1 {a : Expr} {st : SB} (h : JT X c E a st) : JW X c E (.BoolOp .And [a] pos) st := pw_and1 h
theorem jw_or1 {a : Expr} {st : SB} (h : JT X c E a st) : JW X c E (.BoolOp .Or [a] pos) st := pw_or1 h
theorem jw_and {a b : Expr} {rest : List Expr} {st su : SB} (h : JT X c E a st) (h2 : JW X c E (.BoolOp .And (b :: rest) pos) su) : JW X c E (.BoolOp .And (a :: b :: rest) pos) (sAnd st su) := pw_imp (pw_and h h2) fun _ _ _ q => and_run q
theorem jw_or {a b : Expr} {rest : List Expr} {st su : SB} (h : JT X c E a st) (h2 : JW X c E (.BoolOp .Or (b :: rest) pos) su) : JW X c E (.BoolOp .Or (a :: b :: rest) pos) (sOr st su) := pw_imp (pw_or h h2) fun _ _ _ q => or_run q
theorem jt_w {e : Expr} {st : SB} (h : JW X c E e st) : JT X c E e st := h.pt
/-- .. as values, all of them bools -/
def sV (st : SB) : SE := fun s => (st s).bind fun b s1 => .ok (.dat (.bl b)) s1
theorem andV_run {K : PySem.W.Frag} {σ : L2.St} {H : Hp} {sa sb : SE} {Q : VK} (q : trE K c E (sV (sAnd (sB sa) (sB sb))) σ H Q) : tAndV (trE K c E sa) (trE K c E sb) σ H Q := by
  obtain ⟨B, s, I, q⟩ := of_tr q
  have q' : Post K c E B H σ s ((sa s).bind fun w s1 => match w with
      | .dat (.bl true) => sV (sB sb) s1
      | .dat (.bl false) => .ok (.dat (.bl false)) s1
      | _ => .bad) Q := by
    revert q
    unfold sV sAnd sB
    cases sa s with
    | ok w s1 =>
      cases w with
      | dat d =>
        cases d with
        | bl b => cases b <;> exact fun q => q
        | _ => exact fun q => q
      | _ => exact fun q => q
    | exc x s1 => exact fun q => q
    | bad => exact fun q => q
  refine trE_mono (bindEP (.refl I) q') fun x H1 ⟨B1, s1, w1, A1, A1', V1, N1, q1⟩ => ?_
  cases w1 with
  | dat d =>
    cases d with
    | bl b =>
      cases V1
      refine ⟨b, rfl, ?_⟩
      cases b with
      | true =>
        refine iteT ?_
        have q2 : Post K c E B H σ s ((sb s1).bind fun w s2 => match w with
            | .dat (.bl k) => .ok (.dat (.bl k)) s2
            | _ => .bad) Q := by
          have q3 : Post K c E B H σ s (sV (sB sb) s1) Q := q1
          revert q3
          unfold sV sB
          cases sb s1 with
          | ok w s2 =>
            cases w with
            | dat d =>
              cases d with
              | bl b => exact fun q => q
              | _ => exact fun q => q
            | _ => exact fun q => q
          | exc x s1 => exact fun q => q
          | bad => exact fun q => q
        refine trE_mono (bindEP A1 q2) fun y H2 ⟨B2, s2, w2, A2, A2', V2, N2, q3⟩ => ?_
        cases w2 with
        | dat d2 =>
          cases d2 with
          | bl b2 => exact q3 y B2 H2 A2 V2 trivial
          | _ => exact q3.elim
        | _ => exact q3.elim
      | false => exact iteF (q1 _ B1 H1 A1 (.bl false) trivial)
    | _ => exact q1.elim
  | _ => exact q1.elim
theorem orV_run {K : PySem.W.Frag} {σ : L2.St} {H : Hp} {sa sb : SE} {Q : VK} (q : trE K c E (sV (sOr (sB sa) (sB sb))) σ H Q) : tOrV (trE K c E sa) (trE K c E sb) σ H Q := by
  obtain ⟨B, s, I, q⟩ := of_tr q
  have q' : Post K c E B H σ s ((sa s).bind fun w s1 => match w with
      | .dat (.bl false) => sV (sB sb) s1
      | .dat (.bl true) => .ok (.dat (.bl true)) s1
      | _ => .bad) Q := by
    revert q
    unfold sV sOr sB
    cases sa s with
    | ok w s1 =>
      cases w with
      | dat d =>
        cases d with
        | bl b => cases b <;> exact fun q => q
        | _ => exact fun q => q
      | _ => exact fun q => q
    | exc x s1 => exact fun q => q
    | bad => exact fun q => q
  refine trE_mono (bindEP (.refl I) q') fun x H1 ⟨B1, s1, w1, A1, A1', V1, N1, q1⟩ => ?_
  cases w1 with
  | dat d =>
    cases d with
    | bl b =>
      cases V1
      refine ⟨b, rfl, ?_⟩
      cases b with
      | false =>
        refine iteF ?_
        have q2 : Post K c E B H σ s ((sb s1).bind fun w s2 => match w with
            | .dat (.bl k) => .ok (.dat (.bl k)) s2
            | _ => .bad) Q := by
          have q3 : Post K c E B H σ s (sV (sB sb) s1) Q := q1
          revert q3
          unfold sV sB
          cases sb s1 with
          | ok w s2 =>
            cases w with
            | dat d =>
              cases d with
              | bl b => exact fun q => q
              | _ => exact fun q => q
            | _ => exact fun q => q
          | exc x s1 => exact fun q => q
          | bad => exact fun q => q
        refine trE_mono (bindEP A1 q2) fun y H2 ⟨B2, s2, w2, A2, A2', V2, N2, q3⟩ => ?_
        cases w2 with
        | dat d2 =>
          cases d2 with
          | bl b2 => exact q3 y B2 H2 A2 V2 trivial
          | _ => exact q3.elim
        | _ => exact q3.elim
      | true => exact iteT (q1 _ B1 H1 A1 (.bl true) trivial)
    | _ => exact q1.elim
  | _ => exact q1.elim
/-- a value known to be a bool, as a value again: what the last of a chain says -/
theorem je_one {op : BoolOp} {a : Expr} {se : SE} (h : JE X c E a se) : JE X c E (.BoolOp op [a] pos) se := pe_one h
theorem je_and {a b : Expr} {rest : List Expr} {sa sb : SE} (ha : JE X c E a sa) (hb : JE X c E (.BoolOp .And (b :: rest) pos) sb) : JE X c E (.BoolOp .And (a :: b :: rest) pos) (sV (sAnd (sB sa) (sB sb))) := pe_imp (pe_and ha hb) fun _ _ _ q => andV_run q
theorem je_or {a b : Expr} {rest : List Expr} {sa sb : SE} (ha : JE X c E a sa) (hb : JE X c E (.BoolOp .Or (b :: rest) pos) sb) : JE X c E (.BoolOp .Or (a :: b :: rest) pos) (sV (sOr (sB sa) (sB sb))) := pe_imp (pe_or ha hb) fun _ _ _ q => orV_run q
theorem je_not {a : Expr} {sa : SE} (ha : JE X c E a sa) : JE X c E (.UnaryOp .Not a pos) (sV (sNot (sB sa))) := pe_imp (pe_not ha) fun σ H Q q => by
  obtain ⟨B, s, I, q⟩ := of_tr q
  have q' : Post X.K c E B H σ s ((sa s).bind fun w s1 => match w with
      | .dat (.bl b) => .ok (.dat (.bl (!b))) s1
      | _ => .bad) Q := by
    revert q
    unfold sV sNot sB
    cases sa s with
    | ok w s1 =>
      cases w with
      | dat d =>
        cases d with
        | bl b => exact fun q => q
        | _ => exact fun q => q
      | _ => exact fun q => q
    | exc x s1 => exact fun q => q
    | bad => exact fun q => q
  refine trE_mono (bindEP (.refl I) q') fun x H1 ⟨B1, s1, w1, A1, A1', V1, N1, q1⟩ => ?_
  cases w1 with
  | dat d =>
    cases d with
    | bl b =>
      cases V1
      exact ⟨b, rfl, q1 _ B1 H1 A1 (.bl _) trivial⟩
    | _ => exact q1.elim
  | _ => exact q1.elim
/-- a if t else b -/
def sIf (st : SB) (sa sb : SE) : SE := fun s => (st s).bind fun b s1 => match b with
  | true => sa s1
  | false => sb s1
theorem je_if {t a b : Expr} {st : SB} {sa sb : SE} (ht : JT X c E t st) (ha : JE X c E a sa) (hb : JE X c E b sb) : JE X c E (.IfExp t a b pos) (sIf st sa sb) := pe_imp (pe_ifExp ht ha hb) fun σ H Q q => by
  obtain ⟨B, s, I, q⟩ := of_tr q
  refine trT_mono (bindTP (.refl I) q) fun b H1 ⟨B1, s1, A1, q1⟩ => ?_
  cases b with
  | true => exact iteT (tr_of A1.si (aft_post A1 q1))
  | false => exact iteF (tr_of A1.si (aft_post A1 q1))
end
end Eng

namespace Eng
open PySem PySem.Spec PyProof.Rows L2 Evl
variable [Tb]

section
variable {X : Cx} {K : PySem.W.Frag} {B H : Hp} {v : V}
/-! ### data looked at -/
theorem Pk.int_inv {i : Int} (h : Pk K B H v (.int i)) : v = .int i := by cases h; rfl
theorem Pk.bl_inv {b : Bool} (h : Pk K B H v (.bl b)) : v = .bl b := by cases h; rfl
theorem Pk.non_inv (h : Pk K B H v .non) : v = .non := by cases h; rfl
theorem Pk.str_inv {b : Str} (h : Pk K B H v (.str b)) : v = .str b := by cases h; rfl
theorem Pk.lst_inv {ds : List D} (h : Pk K B H v (.lst ds)) : ∃ a vs, v = .ref a ∧ H a = some (.lst vs) ∧ DqAll K B vs ds := h
theorem Pk.tup_inv {ds : List D} (e : Ex B H) (h : Pk K B H v (.tup ds)) : ∃ a vs, v = .ref a ∧ SqT K H a vs ∧ SqT K B a vs ∧ DqAll K B vs ds := by
  cases h with
  | tup s a => exact ⟨_, _, rfl, ex_t e s, s, a⟩
theorem OpR.or' {f : Value → Value → Sem Value} {r r' : R2} (h : OpR X f r) (h' : OpR X f r') : OpR X f (fun x y H Q => r x y H Q ∨ r' x y H Q) := OpR.or h h'
abbrev R2.or (r r' : R2) : R2 := fun x y H Q => r x y H Q ∨ r' x y H Q
theorem RO2.orL {r r' : R2} {f g : D → D → Option Vw} (h : RO2 K r f) (h' : RO2 K r' g) : RO2 K (R2.or r r') (fun a b => match f a b with
    | some w => some w
    | none => g a b) := by
  intro B H x y d1 d2 w e p1 p2 q Q k
  cases e1 : f d1 d2 with
  | some w' =>
    simp only [e1, Option.some.injEq] at q
    subst q
    exact .inl (h B H x y d1 d2 _ e p1 p2 e1 Q k)
  | none =>
    simp only [e1] at q
    exact .inr (h' B H x y d1 d2 _ e p1 p2 q Q k)
def line : Nat := 1000000
theorem line_ok {n : Nat} (h : n ≤ line) : n ≤ sizeLine := Nat.le_trans h (by rw [sizeLine_eq]; decide)
theorem line_lt {n : Nat} (h : n < line) : n < sizeLine := Nat.lt_of_lt_of_le h (by rw [sizeLine_eq]; decide)

/-! ### + -/
def iop (g : Int → Int → D) : D → D → Option Vw
  | .int i, .int j => some (.dat (g i j))
  | _, _ => none
theorem ro_int {g : Int → Int → V} {g' : Int → Int → D} (h : ∀ i j K H, Dq K H (g i j) (g' i j)) : RO2 K (rI0 g) (iop g') := by
  intro B H x y d1 d2 w e p1 p2 q Q k
  cases d1 <;> cases d2 <;> simp only [iop, Option.some.injEq, reduceCtorEq] at q
  subst q
  rw [p1.int_inv, p2.int_inv]
  exact ⟨_, _, rfl, rfl, k _ B H (.old (h _ _ _ _))⟩
def iopC (C : Int → Int → Prop) [∀ i j, Decidable (C i j)] (g : Int → Int → D) : D → D → Option Vw
  | .int i, .int j => if C i j then some (.dat (g i j)) else none
  | _, _ => none
theorem ro_intC {C C' : Int → Int → Prop} [∀ i j, Decidable (C' i j)] {g : Int → Int → V} {g' : Int → Int → D} (hc : ∀ i j, C' i j → C i j) (h : ∀ i j K H, Dq K H (g i j) (g' i j)) : RO2 K (rI C g) (iopC C' g') := by
  intro B H x y d1 d2 w e p1 p2 q Q k
  cases d1 <;> cases d2 <;> simp only [iopC, reduceCtorEq] at q
  split at q
  · rename_i z
    cases q
    rw [p1.int_inv, p2.int_inv]
    exact ⟨_, _, rfl, rfl, hc _ _ z, k _ B H (.old (h _ _ _ _))⟩
  · cases q
def catL : D → D → Option Vw
  | .lst a, .lst b => if a.length + b.length ≤ line then some (.fr (a ++ b)) else none
  | _, _ => none
theorem ro_catL : RO2 K rCat catL := by
  intro B H x y d1 d2 w e p1 p2 q Q k
  cases d1 <;> cases d2 <;> simp only [catL, reduceCtorEq] at q
  split at q
  · rename_i z
    cases q
    obtain ⟨a, vs, rfl, h1, q1⟩ := p1.lst_inv
    obtain ⟨b, us, rfl, h2, q2⟩ := p2.lst_inv
    refine ⟨a, b, vs, us, rfl, rfl, h1, h2, line_ok (by rw [q1.length, q2.length]; exact z), fun p n => k _ B _ (.list n (q1.append q2))⟩
  · cases q
def catT : D → D → Option Vw
  | .tup a, .tup b => if a.length + b.length ≤ line then some (.dat (.tup (a ++ b))) else none
  | _, _ => none
theorem ro_catT : RO2 K (rCatA K) catT := by
  intro B H x y d1 d2 w e p1 p2 q Q k
  cases d1 <;> cases d2 <;> simp only [catT, reduceCtorEq] at q
  split at q
  · rename_i as bs z
    cases q
    obtain ⟨a, vs, rfl, h1, h1', q1⟩ := p1.tup_inv e
    obtain ⟨b, us, rfl, h2, h2', q2⟩ := p2.tup_inv e
    refine ⟨a, b, vs, us, rfl, rfl, h1, h2, line_ok (by rw [q1.length, q2.length]; exact z), fun z => ?_, fun _ z => ?_, fun _ _ p n => ?_⟩
    · subst z
      cases q1
      exact k _ B H (.old (.tup h2' q2))
    · subst z
      cases q2
      rw [List.append_nil] at k
      exact k _ B H (.old (.tup h1' q1))
    · have nB : B p = none := by
        cases z : B p with
        | none => rfl
        | some o =>
          rw [e p o z] at n
          cases n
      exact k _ _ _ (.data n (.tup (SqT.of upd_same) ((q1.append q2).mono (Ex.new nB))))
  · cases q
def catS : D → D → Option Vw
  | .str a, .str b => if a.length + b.length ≤ line then some (.dat (.str (a ++ b))) else none
  | _, _ => none
theorem ro_catS : RO2 K (fun x y H Q => ∃ i j, x = .str i ∧ y = .str j ∧ i.length + j.length ≤ sizeLine ∧ Q (.str (i ++ j)) H) catS := by
  intro B H x y d1 d2 w e p1 p2 q Q k
  cases d1 <;> cases d2 <;> simp only [catS, reduceCtorEq] at q
  split at q
  · rename_i z
    cases q
    rw [p1.str_inv, p2.str_inv]
    exact ⟨_, _, rfl, rfl, line_ok z, k _ B H (.old (.str _))⟩
  · cases q
/-- the sum of two data -/
def addD : D → D → Option Vw
  | .int i, .int j => some (.dat (.int (i + j)))
  | .lst a, .lst b => if a.length + b.length ≤ line then some (.fr (a ++ b)) else none
  | .tup a, .tup b => if a.length + b.length ≤ line then some (.dat (.tup (a ++ b))) else none
  | .str a, .str b => if a.length + b.length ≤ line then some (.dat (.str (a ++ b))) else none
  | _, _ => none
theorem RO2.to {r : R2} {f g : D → D → Option Vw} (h : RO2 K r f) (e : ∀ a b w, g a b = some w → f a b = some w) : RO2 K r g := fun B H x y d1 d2 w i p1 p2 q => h B H x y d1 d2 w i p1 p2 (e _ _ _ q)
def rAddU (K : PySem.W.Frag) : R2 := R2.or (rI0 fun i j => .int (i + j)) (R2.or rCat (R2.or (rCatA K) fun x y H Q => ∃ i j, x = .str i ∧ y = .str j ∧ i.length + j.length ≤ sizeLine ∧ Q (.str (i ++ j)) H))
theorem op_addU : OpR X (binaryOp .Add) (rAddU X.K) := OpR.or op_add (OpR.or op_cat (OpR.or op_catA op_add_str))
theorem ro_addU : RO2 K (rAddU K) addD := (RO2.orL (ro_int (g' := fun i j => .int (i + j)) fun _ _ _ _ => .int _) (RO2.orL ro_catL (RO2.orL ro_catT ro_catS))).to fun a b w q => by
  cases a <;> cases b <;> simp only [addD, reduceCtorEq] at q <;> simp only [iop, catL, catT, catS, q]
theorem je_add {c : Cc} {E : XS} {pos : Pos} {a b : Expr} {sa sb : SE} (ha : JE X c E a sa) (hb : JE X c E b sb) : JE X c E (.BinOp a .Add b pos) (sOp2 addD sa sb) := je_bin op_addU ro_addU ha hb
/-! ### -, *, //, %, ** -/
def subD : D → D → Option Vw := iop fun i j => .int (i - j)
theorem je_sub {c : Cc} {E : XS} {pos : Pos} {a b : Expr} {sa sb : SE} (ha : JE X c E a sa) (hb : JE X c E b sb) : JE X c E (.BinOp a .Sub b pos) (sOp2 subD sa sb) := je_bin op_sub (ro_int fun _ _ _ _ => .int _) ha hb
/-- factors of together less than a hundred million bits -/
def CMulB (i j : Int) : Prop := i.natAbs.log2 + j.natAbs.log2 < 100000000
theorem CMulB.ok {i j : Int} (h : CMulB i j) : IntMulOk i j := fun z => by
  have bits : ∀ x : Int, Builtin.Int.intBits x ≤ x.natAbs.log2 + 1 := fun x => by
    unfold Builtin.Int.intBits
    split
    · omega
    · exact Nat.le_refl _
  have line : bitsLine = 134217728 := by decide
  have big : Builtin.Int.intTooBig (Builtin.Int.intBits i + Builtin.Int.intBits j) = true := by
    rw [Bool.and_eq_true] at z
    exact z.2
  have b1 := bits i
  have b2 := bits j
  have h' : i.natAbs.log2 + j.natAbs.log2 < 100000000 := h
  unfold Builtin.Int.intTooBig at big
  have big' := of_decide_eq_true big
  rw [line] at big'
  omega
theorem op_mulB : OpR X (binaryOp .Mult) (rI CMulB fun i j => .int (i * j)) := opI fun _ _ _ _ _ _ _ hc q => mul_int q hc.ok
/-- a tuple so often -/
def rRepU (K : PySem.W.Frag) : R2 := fun x y H Q => ∃ l k xs, x = .ref l ∧ y = .int k ∧ SqT K H l xs ∧ xs ≠ [] ∧ 2 ≤ k ∧ k ≤ 1000000 ∧ xs.length * k.toNat ≤ 1000000 ∧ ∀ p, H p = none → Q (.ref p) (upd H p (.tup (List.replicate k.toNat xs).flatten))
theorem op_repU : OpR X (binaryOp .Mult) (rRepU X.K) := by
  intro pins s σ H x y v u Q I rx ry ⟨l, k, xs, ex, ey, hT, ne, lo, hi, sz, q⟩
  subst ex ey
  cases rx
  obtain ⟨t, rfl⟩ := ry
  obtain ⟨its, r, ⟨⟨cls, dd, data, sl⟩, ho, hc, n, hd⟩, hs⟩ := I.tuple hT
  simp only at hc hd
  subst hc hd
  have len : its.length = xs.length := r.length.symm
  have many : its.toArray.size = xs.length := by rw [List.size_toArray, len]
  have full : its.toArray.isEmpty = false := by
    cases its with
    | cons b bs => rfl
    | nil => exact (ne (List.eq_nil_of_length_eq_zero len.symm)).elim
  have kN : (k.toNat : Int) = k := by omega
  have prod : ((its.toArray.size : Nat) : Int) * k ≤ 1000000 := by
    rw [many, ← kN, ← Int.natCast_mul]
    omega
  have flat : (List.replicate k.toNat its).flatten.length ≤ 1000000 := by
    rw [PyProof.Rows.lm_len_rep_flat, len, Nat.mul_comm]
    exact sz
  have flatV : (List.replicate k.toNat xs).flatten.length ≤ 1000000 := by
    rw [PyProof.Rows.lm_len_rep_flat, Nat.mul_comm]
    exact sz
  have big : (1000000 : Nat) ≤ sizeLine := by rw [sizeLine_eq]; decide
  have d0 : (decide (k < -(2 ^ 63)) || decide (k ≥ 2 ^ 63)) = false := by
    rw [decide_eq_false (by omega), decide_eq_false (by omega)] <;> rfl
  have d1 : (its.toArray.isEmpty || k == 1) = false := by
    rw [full, Bool.false_or]
    exact beq_eq_false_iff_ne.mpr fun z => by omega
  have d2 : (decide (k ≤ 0) || its.toArray.isEmpty) = false := by
    rw [full, Bool.or_false]
    exact decide_eq_false fun z => by omega
  have d3 : Builtin.Tuple.tupleTooMany (((its.toArray.size : Nat) : Int) * k) = false := by
    unfold Builtin.Tuple.tupleTooMany
    rw [sizeLine_eq]
    exact decide_eq_false fun z => by omega
  refine wpAny_binaryOp_repeat_ref (T := "tuple") (U := "int") (by decide) ⟨_, ho, rfl⟩ (fun s' => typeIs_int s' k t) noFill_tuple_mul F.fills_int_mul F.slot_int_rmul repeat_tuple F.slot_int_index.lookup
    (call_meets F.slot_int_rmul (typeIs_int s k t) F.entry_int_rmul (F.args_int_rmul_2 _ _) (int_rmul_tuple k t l its.toArray n dd sl)
      ⟨ho, rfl, ⟨_, ho, rfl⟩, call_meets F.slot_tuple_mul ⟨_, ho, rfl⟩ F.entry_tuple_mul (F.args_tuple_mul_2 _ _) (tuple_mulW l its.toArray n dd sl k t d0 d1 d2 (by omega) d3 (by rw [size_rep, List.size_toArray]; omega)) ⟨ho, ?_⟩⟩)
  rw [size_rep]
  exact ⟨.ref s.heap.objs.size, _, I.laid (t' := s.toks) (o := .tup (List.replicate k.toNat xs).flatten) (fun b ob e => Heap.get?_push_of_some _ e) (Nat.le_refl _) ⟨by omega, _, r.rep k.toNat, IsTup.new _ _⟩, rfl, q _ (I.hok.fresh (Nat.le_refl _))⟩
def repL : D → D → Option Vw
  | .lst a, .int k => if a.length * k.toNat ≤ line ∧ -1000000 ≤ k ∧ k ≤ 1000000 then some (.fr (List.replicate k.toNat a).flatten) else none
  | _, _ => none
theorem ro_repL : RO2 K rRep repL := by
  intro B H x y d1 d2 w e p1 p2 q Q k
  cases d1 <;> cases d2 <;> simp only [repL, reduceCtorEq] at q
  split at q
  · rename_i z
    obtain ⟨z1, z2, z3⟩ := z
    cases q
    obtain ⟨a, vs, rfl, h1, q1⟩ := p1.lst_inv
    rw [p2.int_inv]
    exact ⟨a, _, vs, rfl, rfl, h1, by omega, by omega, line_ok (by rw [q1.length]; exact z1), fun p n => k _ B _ (.list n (q1.rep _))⟩
  · cases q
def repT : D → D → Option Vw
  | .tup a, .int k => if a ≠ [] ∧ 2 ≤ k ∧ k ≤ 1000000 ∧ a.length * k.toNat ≤ 1000000 then some (.dat (.tup (List.replicate k.toNat a).flatten)) else none
  | _, _ => none
theorem DqAll.ne {ds : List D} {vs : List V} (h : DqAll K H vs ds) (n : ds ≠ []) : vs ≠ [] := fun z => by
  subst z
  cases h
  exact n rfl
theorem bn {B H : Hp} (e : Ex B H) {p : Addr} (n : H p = none) : B p = none := by
  cases z : B p with
  | none => rfl
  | some o =>
    rw [e p o z] at n
    cases n
instance (a : List D) : Decidable (a ≠ []) := match a with
  | [] => isFalse (fun h => h rfl)
  | _ :: _ => isTrue (fun h => nomatch h)
theorem ro_repT : RO2 K (rRepU K) repT := by
  intro B H x y d1 d2 w e p1 p2 q Q k
  cases d1 <;> cases d2 <;> simp only [repT, reduceCtorEq] at q
  split at q
  · rename_i z
    obtain ⟨z0, z1, z2, z3⟩ := z
    cases q
    obtain ⟨a, vs, rfl, h1, h1', q1⟩ := p1.tup_inv e
    rw [p2.int_inv]
    exact ⟨a, _, vs, rfl, rfl, h1, q1.ne z0, z1, z2, by rw [q1.length]; exact z3, fun p n => k _ _ _ (.data n (.tup (SqT.of upd_same) ((q1.rep _).mono (Ex.new (bn e n)))))⟩
  · cases q
/-- a tuple once is itself -/
theorem tuple_mul1 (l : Addr) (items : Array Value) (n : Nat) (dd : Option Addr) (sl : Array (Option Value)) (u : Tok) :
    Meets (Builtin.«tuple.__mul__» ⟨[.ref l, .int 1 u], []⟩) (fun _ R s => s.heap.get? l = some { cls := .type "tuple", dict := dd, data := .seq items n, slots := sl } ∧ R (.ok (.ret (Value.ref l))) s) :=
  .of_wp fun prog w A R s h => by
    obtain ⟨hp, g, d, tk, os⟩ := s
    obtain ⟨hl, h⟩ := h
    have f1 := AutoSeq1.idx_int
    have c0 : (decide ((1 : Int) < -(2 ^ 63)) || decide ((1 : Int) ≥ 2 ^ 63)) = false := by decide
    have c1 : (items.isEmpty || (1 : Int) == 1) = true := by rw [show ((1 : Int) == 1) = true from rfl, Bool.or_true]
    wp_walk using wpAny_loadPart' hl
    repeat (first
      | (refine wpAny_ite_false (decide_eq_false (by rw [c0]; exact Bool.false_ne_true)) ?_; wp_walk using wpAny_loadPart' hl)
      | (refine wpAny_ite_true (decide_eq_true (by rw [c1])) ?_; wp_walk using wpAny_loadPart' hl))
    exact ⟨_, rfl, h⟩
def rRep1 (K : PySem.W.Frag) : R2 := fun x y H Q => ∃ l xs, x = .ref l ∧ y = .int 1 ∧ SqT K H l xs ∧ Q (.ref l) H
theorem op_rep1 : OpR X (binaryOp .Mult) (rRep1 X.K) := by
  intro pins s σ H x y v u Q I rx ry ⟨l, xs, ex, ey, hT, q⟩
  subst ex ey
  cases rx
  obtain ⟨t, rfl⟩ := ry
  obtain ⟨its, r, ⟨⟨cls, dd, data, sl⟩, ho, hc, n, hd⟩, hs⟩ := I.tuple hT
  simp only at hc hd
  subst hc hd
  refine wpAny_binaryOp_repeat_ref (T := "tuple") (U := "int") (by decide) ⟨_, ho, rfl⟩ (fun s' => typeIs_int s' 1 t) noFill_tuple_mul F.fills_int_mul F.slot_int_rmul repeat_tuple F.slot_int_index.lookup
    (call_meets F.slot_int_rmul (typeIs_int s 1 t) F.entry_int_rmul (F.args_int_rmul_2 _ _) (int_rmul_tuple 1 t l its.toArray n dd sl)
      ⟨ho, rfl, ⟨_, ho, rfl⟩, call_meets F.slot_tuple_mul ⟨_, ho, rfl⟩ F.entry_tuple_mul (F.args_tuple_mul_2 _ _) (tuple_mul1 l its.toArray n dd sl t) ⟨ho, ?_⟩⟩)
  exact ⟨.ref l, H, I, rfl, q⟩
def rep1T : D → D → Option Vw
  | .tup a, .int k => if k = 1 then some (.dat (.tup a)) else none
  | _, _ => none
theorem ro_rep1 : RO2 K (rRep1 K) rep1T := by
  intro B H x y d1 d2 w e p1 p2 q Q k
  cases d1 <;> cases d2 <;> simp only [rep1T, reduceCtorEq] at q
  split at q
  · rename_i z
    subst z
    cases q
    obtain ⟨a, vs, rfl, h1, h1', q1⟩ := p1.tup_inv e
    rw [p2.int_inv]
    exact ⟨a, vs, rfl, rfl, h1, k _ B H (.old (.tup h1' q1))⟩
  · cases q
instance (i j : Int) : Decidable (CMulB i j) := inferInstanceAs (Decidable (_ < _))
def rMulU (K : PySem.W.Frag) : R2 := R2.or (rI CMulB fun i j => .int (i * j)) (R2.or rRep (R2.or (rRepU K) (rRep1 K)))
theorem op_mulU : OpR X (binaryOp .Mult) (rMulU X.K) := OpR.or op_mulB (OpR.or op_rep (OpR.or op_repU op_rep1))
/-- the product of two data -/
def mulD : D → D → Option Vw
  | .int i, .int j => if CMulB i j then some (.dat (.int (i * j))) else none
  | .lst a, .int k => if a.length * k.toNat ≤ line ∧ -1000000 ≤ k ∧ k ≤ 1000000 then some (.fr (List.replicate k.toNat a).flatten) else none
  | .tup a, .int k => if k = 1 then some (.dat (.tup a)) else if a ≠ [] ∧ 2 ≤ k ∧ k ≤ 1000000 ∧ a.length * k.toNat ≤ 1000000 then some (.dat (.tup (List.replicate k.toNat a).flatten)) else none
  | _, _ => none
theorem ro_mulU : RO2 K (rMulU K) mulD := (RO2.orL (ro_intC (C' := CMulB) (g' := fun i j => .int (i * j)) (fun _ _ z => z) fun _ _ _ _ => .int _) (RO2.orL ro_repL (RO2.orL ro_repT ro_rep1))).to fun a b w q => by
  cases a <;> cases b <;> simp only [mulD, reduceCtorEq] at q
  case int.int => simp only [iopC, q]
  case lst.int => simp only [iopC, repL, q]
  case tup.int i j =>
    simp only [iopC, repL, repT, rep1T]
    split at q
    · rename_i z
      subst z
      rw [if_neg (by omega)]
      exact q
    · split at q
      · rename_i z
        rw [if_pos z]
        exact q
      · cases q
def modD : D → D → Option Vw := iopC (fun _ j => 0 < j) fun i j => .int (i % j)
def fdivD : D → D → Option Vw := iopC (fun _ j => 0 < j ∧ j.natAbs.log2 < 9000) fun i j => .int (i / j)
def powD : D → D → Option Vw := iopC (fun i j => 0 ≤ j ∧ j ≤ 1000000 ∧ i.natAbs < 2 ^ 64) fun i j => .int (i ^ j.toNat)
def negD : D → Option Vw
  | .int i => some (.dat (.int (-i)))
  | _ => none
section
variable {c : Cc} {E : XS} {pos : Pos} {a b : Expr} {sa sb : SE}
theorem je_mul (ha : JE X c E a sa) (hb : JE X c E b sb) : JE X c E (.BinOp a .Mult b pos) (sOp2 mulD sa sb) := je_bin op_mulU ro_mulU ha hb
theorem je_mod (ha : JE X c E a sa) (hb : JE X c E b sb) : JE X c E (.BinOp a .Mod b pos) (sOp2 modD sa sb) := je_bin op_mod (ro_intC (fun _ _ z => z) fun _ _ _ _ => .int _) ha hb
theorem je_fdiv (ha : JE X c E a sa) (hb : JE X c E b sb) : JE X c E (.BinOp a .FloorDiv b pos) (sOp2 fdivD sa sb) := je_bin op_fdivW (ro_intC (fun _ _ z => z) fun _ _ _ _ => .int _) ha hb
theorem je_pow (ha : JE X c E a sa) (hb : JE X c E b sb) : JE X c E (.BinOp a .Pow b pos) (sOp2 powD sa sb) := je_bin op_pow (ro_intC (fun _ _ z => z) fun _ _ _ _ => .int _) ha hb
theorem ro_neg : RO1 K (rU fun i => .int (-i)) negD := by
  intro B H x d1 w e p1 q Q k
  cases d1 <;> simp only [negD, reduceCtorEq] at q
  cases q
  rw [p1.int_inv]
  exact ⟨_, rfl, k _ B H (.old (.int _))⟩
theorem je_neg (ha : JE X c E a sa) : JE X c E (.UnaryOp .USub a pos) (sOp1 negD sa) := je_un un_neg ro_neg ha
/-! ### comparisons -/
def ltD : D → D → Option Vw := iop fun i j => .bl (decide (i < j))
def leD : D → D → Option Vw := iop fun i j => .bl (decide (i ≤ j))
def gtD : D → D → Option Vw
  | .int i, .int j => some (.dat (.bl (decide (j < i))))
  | .bl b, .int j => some (.dat (.bl (decide (j < if b = true then 1 else 0))))
  | _, _ => none
/-- a bool beside an int -/
def rGtB : R2 := fun x y H Q => ∃ b j, x = .bl b ∧ y = .int j ∧ Q (.bl (decide (j < if b = true then 1 else 0))) H
theorem gives_gt_bi (p : Bool) (j : Int) (u : Tok) : PySem.Gives (PySem.Builtin.«int.__gt__» ⟨[.bool p, .int j u], []⟩) (.val (.bool (decide (j < if p = true then (1 : Int) else 0)))) :=
  .of_wp fun M A E s Q h => by
    obtain ⟨hp, g, d, tk, os⟩ := s
    wp_walk
    exact ⟨_, rfl, h⟩
theorem op_gtB : OpR X (compareOp .Gt) (R2.or (rI0 fun i j => .bl (decide (j < i))) rGtB) := OpR.or op_gt (by
  intro pins s σ H x y v u Q I rx ry ⟨b, j, ex, ey, q⟩
  subst ex ey
  obtain rfl : v = Value.bool b := rx
  obtain ⟨t, rfl⟩ := ry
  show wpAny _ _ (richCompare .Gt _ _) _ _ _
  exact PyProof.Rows.wpAny_richCompare_left (PyProof.Rows.typeIs_bool' s b) (typeIs_int s j t) (by decide) F.sub_int_bool F.slot_bool_gt (call_gives F.slot_bool_gt (PyProof.Rows.typeIs_bool' s b) F.entry_int_gt (F.args_int_gt_2 _ _) (gives_gt_bi b j t) ⟨nofun, ⟨.bl (decide (j < if b = true then 1 else 0)), H, I, rfl, q⟩⟩))
def geD : D → D → Option Vw := iop fun i j => .bl (decide (j ≤ i))
theorem ro_lt : RO2 K (rI0 fun i j => .bl (decide (i < j))) ltD := ro_int fun _ _ _ _ => .bl _
theorem ro_le : RO2 K (rI0 fun i j => .bl (decide (i ≤ j))) leD := ro_int fun _ _ _ _ => .bl _
theorem ro_gtI : RO2 K (rI0 fun i j => .bl (decide (j < i))) (iop fun i j => .bl (decide (j < i))) := ro_int fun _ _ _ _ => .bl _
theorem ro_gt : RO2 K (R2.or (rI0 fun i j => .bl (decide (j < i))) rGtB) gtD := by
  intro B H x y d1 d2 w e p1 p2 q Q k
  cases d1 <;> cases d2 <;> simp only [gtD, reduceCtorEq] at q
  case int.int i j => exact .inl (ro_gtI B H x y (.int i) (.int j) w e p1 p2 q Q k)
  case bl.int b j =>
    cases q
    refine .inr ⟨b, j, ?_, p2.int_inv, k _ B H (.old (.bl _))⟩
    cases p1
    rfl
theorem ro_ge : RO2 K (rI0 fun i j => .bl (decide (j ≤ i))) geD := ro_int fun _ _ _ _ => .bl _
/-- == of data (no objects) -/
def eqv? (d e : D) : Option Bool := match d.py, e.py with
  | some p, some q => if SeqAt.shaped p = true ∧ SeqAt.shaped q = true then some (PyData.eqv p q) else none
  | _, _ => none
def eqD (d e : D) : Option Vw := (eqv? d e).map fun b => .dat (.bl b)
def neD (d e : D) : Option Vw := (eqv? d e).map fun b => .dat (.bl (!b))
theorem eqv?_some {d e : D} {k : Bool} (h : eqv? d e = some k) : ∃ p q, d.py = some p ∧ e.py = some q ∧ SeqAt.shaped p = true ∧ SeqAt.shaped q = true ∧ PyData.eqv p q = k := by
  unfold eqv? at h
  split at h
  · rename_i p q h1 h2
    split at h
    · rename_i z
      cases h
      exact ⟨p, q, h1, h2, z.1, z.2, rfl⟩
    · cases h
  · cases h
theorem ro_eq : RO2 K (rEqD K) eqD := by
  intro B H x y d1 d2 w e p1 p2 q Q k
  simp only [eqD, Option.map_eq_some_iff] at q
  obtain ⟨b, h, rfl⟩ := q
  obtain ⟨p, q, h1, h2, h3, h4, rfl⟩ := eqv?_some h
  exact ⟨p, q, (p1.dq e).dp h1, (p2.dq e).dp h2, h3, h4, k _ B H (.old (.bl _))⟩
theorem ro_ne : RO2 K (rNeD K) neD := by
  intro B H x y d1 d2 w e p1 p2 q Q k
  simp only [neD, Option.map_eq_some_iff] at q
  obtain ⟨b, h, rfl⟩ := q
  obtain ⟨p, q, h1, h2, h3, h4, rfl⟩ := eqv?_some h
  exact ⟨p, q, (p1.dq e).dp h1, (p2.dq e).dp h2, h3, h4, k _ B H (.old (.bl _))⟩
def D.isNon : D → Bool
  | .non => true
  | _ => false
def isN2 (n : Bool) (a b : D) : Option Vw := match b with
  | .non => some (.dat (.bl (a.isNon != n)))
  | _ => none
theorem pk_isN {d : D} (h : Pk K B H v d) : decide (v = .non) = d.isNon := by
  cases d with
  | non => rw [h.non_inv]; rfl
  | bl b => rw [h.bl_inv]; rfl
  | int b => rw [h.int_inv]; rfl
  | str b => rw [h.str_inv]; rfl
  | tup ds => cases h; rfl
  | lst ds => obtain ⟨a, vs, rfl, _⟩ := h; rfl
  | obj C fs => cases h; rfl
  | exc C fs => cases h <;> rfl
  | scr ns => cases h; rfl
theorem ro_isN : RO2 K (fun x y H Q => y = .non ∧ Q (.bl (decide (x = .non))) H) (isN2 false) := by
  intro B H x y d1 d2 w e p1 p2 q Q k
  cases d2 <;> simp only [isN2, reduceCtorEq] at q
  refine ⟨p2.non_inv, ?_⟩
  rw [pk_isN p1]
  cases q
  have z : (d1.isNon != false) = d1.isNon := by cases d1.isNon <;> rfl
  rw [z] at k
  exact k _ B H (.old (.bl _))
theorem ro_notN : RO2 K (fun x y H Q => y = .non ∧ Q (.bl (!decide (x = .non))) H) (isN2 true) := by
  intro B H x y d1 d2 w e p1 p2 q Q k
  cases d2 <;> simp only [isN2, reduceCtorEq] at q
  refine ⟨p2.non_inv, ?_⟩
  rw [pk_isN p1]
  cases q
  have z : (d1.isNon != true) = !d1.isNon := by cases d1.isNon <;> rfl
  rw [z] at k
  exact k _ B H (.old (.bl _))
/-- in a list of data -/
def intsOf : List D → Option (List Int)
  | [] => some []
  | .int i :: r => (intsOf r).map (i :: ·)
  | _ :: _ => none
theorem intsOf_eq : ∀ {ds : List D} {ns : List Int}, intsOf ds = some ns → ds = ns.map D.int
  | [], ns, h => by cases h; rfl
  | .int i :: r, ns, h => by
    simp only [intsOf, Option.map_eq_some_iff] at h
    obtain ⟨ms, h1, rfl⟩ := h
    rw [intsOf_eq h1]
    rfl
  | .non :: _, _, h => by simp [intsOf] at h
  | .bl _ :: _, _, h => by simp [intsOf] at h
  | .str _ :: _, _, h => by simp [intsOf] at h
  | .tup _ :: _, _, h => by simp [intsOf] at h
  | .lst _ :: _, _, h => by simp [intsOf] at h
  | .obj _ _ :: _, _, h => by simp [intsOf] at h
  | .exc _ _ :: _, _, h => by simp [intsOf] at h
  | .scr _ :: _, _, h => by simp [intsOf] at h
theorem intsOf_map : ∀ ns : List Int, intsOf (ns.map D.int) = some ns
  | [] => rfl
  | n :: ns => by simp [intsOf, intsOf_map ns]
theorem inV_ints (i : Int) : ∀ ns : List Int, inV (.int i) (ns.map V.int) = decide (i ∈ ns)
  | [] => rfl
  | n :: ns => by
    show (eqV (.int n) (.int i) || inV (.int i) (ns.map V.int)) = _
    rw [inV_ints i ns]
    show ((n == i) || decide (i ∈ ns)) = _
    by_cases h : n = i
    · subst h; simp
    · have h' : ¬ i = n := fun z => h z.symm
      simp [h, h']
theorem flat_ints (ns : List Int) : (ns.map V.int).all flatV = true := by
  rw [List.all_map]
  exact List.all_eq_true.mpr fun _ _ => rfl
/-- x in y: an int in ints (list or tuple), any data in a list -/
def in? (x y : D) : Option Bool := match x, y with
  | .int i, .tup ds => (intsOf ds).map fun ns => decide (i ∈ ns)
  | .int i, .lst ds => (intsOf ds).map fun ns => decide (i ∈ ns)
  | _, _ => none
def inD (x y : D) : Option Vw := (in? x y).map fun b => .dat (.bl b)
def notInD (x y : D) : Option Vw := (in? x y).map fun b => .dat (.bl (!b))
theorem in?_some {x y : D} {k : Bool} {vx vy : V} (e : Ex B H) (p1 : Pk K B H vx x) (p2 : Pk K B H vy y) (h : in? x y = some k) : ∃ p xs, vy = .ref p ∧ (SqL K H p xs ∨ SqT K H p xs) ∧ flatV vx = true ∧ xs.all flatV = true ∧ inV vx xs = k := by
  cases x <;> cases y <;> simp only [in?, reduceCtorEq, Option.map_eq_some_iff] at h
  · obtain ⟨ns, h1, rfl⟩ := h
    obtain ⟨a, vs, rfl, h2, _, q⟩ := p2.tup_inv e
    rw [intsOf_eq h1] at q
    have q' := ints_dq q
    subst q'
    rw [p1.int_inv]
    exact ⟨a, _, rfl, .inr h2, rfl, flat_ints ns, inV_ints _ ns⟩
  · obtain ⟨ns, h1, rfl⟩ := h
    obtain ⟨a, vs, rfl, h2, q⟩ := p2.lst_inv
    rw [intsOf_eq h1] at q
    have q' := ints_dq q
    subst q'
    rw [p1.int_inv]
    exact ⟨a, _, rfl, .inl (SqL.of h2), rfl, flat_ints ns, inV_ints _ ns⟩
theorem ro_in : RO2 K (rIn K false) inD := by
  intro B H x y d1 d2 w e p1 p2 q Q k
  simp only [inD, Option.map_eq_some_iff] at q
  obtain ⟨b, h, rfl⟩ := q
  obtain ⟨p, xs, h1, h2, h3, h4, rfl⟩ := in?_some e p1 p2 h
  exact ⟨p, xs, h1, h2, h3, h4, k _ B H (.old (.bl _))⟩
theorem ro_notIn : RO2 K (rIn K true) notInD := by
  intro B H x y d1 d2 w e p1 p2 q Q k
  simp only [notInD, Option.map_eq_some_iff] at q
  obtain ⟨b, h, rfl⟩ := q
  obtain ⟨p, xs, h1, h2, h3, h4, rfl⟩ := in?_some e p1 p2 h
  exact ⟨p, xs, h1, h2, h3, h4, k _ B H (.old (.bl _))⟩
/-- x in y where both may be anything of data, y a list -/
def inL? (x y : D) : Option Bool := match y with
  | .lst ds => match x.py, D.pys ds with
    | some p, some ps => if SeqAt.shaped p = true ∧ SeqAt.shaped (.list ps) = true then some (ps.any fun z => PyData.eqv z p) else none
    | _, _ => none
  | _ => none
def inLD (x y : D) : Option Vw := (inL? x y).map fun b => .dat (.bl b)
def notInLD (x y : D) : Option Vw := (inL? x y).map fun b => .dat (.bl (!b))
theorem inL?_some {x y : D} {k : Bool} {vx vy : V} (e : Ex B H) (p1 : Pk K B H vx x) (p2 : Pk K B H vy y) (h : inL? x y = some k) : ∃ d ds, Dp K H vx d ∧ Dp K H vy (.list ds) ∧ SeqAt.shaped d = true ∧ SeqAt.shaped (.list ds) = true ∧ (ds.any fun z => PyData.eqv z d) = k := by
  cases y <;> simp only [inL?, reduceCtorEq] at h
  split at h
  · rename_i p ps h1 h2
    split at h
    · rename_i z
      cases h
      refine ⟨p, ps, (p1.dq e).dp h1, (p2.dq e).dp ?_, z.1, z.2, rfl⟩
      simp [D.py, h2]
    · cases h
  · cases h
theorem ro_inL : RO2 K (rInD K) inLD := by
  intro B H x y d1 d2 w e p1 p2 q Q k
  simp only [inLD, Option.map_eq_some_iff] at q
  obtain ⟨b, h, rfl⟩ := q
  obtain ⟨p, xs, h1, h2, h3, h4, rfl⟩ := inL?_some e p1 p2 h
  exact ⟨p, xs, h1, h2, h3, h4, k _ B H (.old (.bl _))⟩
theorem ro_notInL : RO2 K (rNotInD K) notInLD := by
  intro B H x y d1 d2 w e p1 p2 q Q k
  simp only [notInLD, Option.map_eq_some_iff] at q
  obtain ⟨b, h, rfl⟩ := q
  obtain ⟨p, xs, h1, h2, h3, h4, rfl⟩ := inL?_some e p1 p2 h
  exact ⟨p, xs, h1, h2, h3, h4, k _ B H (.old (.bl _))⟩
/-! ### x[i] -/
def at? {α : Type} (xs : List α) (i : Int) : Option α := atI xs i
def ixD : D → D → Option Vw
  | .lst ds, .int i => (atI ds i).map .dat
  | .tup ds, .int i => (atI ds i).map .dat
  | .scr ns, .int i => (atI ns i).map fun n => .dat (.int n)
  | .str z, .int i => if z.length ≤ line then (atI z.cps.toList i).map fun c => .dat (.str ⟨#[c]⟩) else none
  | _, _ => none
theorem DqAll.atI {ds : List D} {vs : List V} {i : Int} {d : D} (h : DqAll K H vs ds) (e : atI ds i = some d) : ∃ v, L2.atI vs i = some v ∧ Dq K H v d := by
  unfold L2.atI at e ⊢
  rw [h.length]
  cases z : ixN ds.length i with
  | none => rw [z] at e; cases e
  | some j =>
    rw [z] at e
    exact h.get e
theorem atI_map {α β : Type} (f : α → β) (xs : List α) (i : Int) : L2.atI (xs.map f) i = (L2.atI xs i).map f := by
  unfold L2.atI
  rw [List.length_map]
  cases ixN xs.length i with
  | none => rfl
  | some j => simp
theorem ro_ix : RO2 K (rIx K) ixD := by
  intro B H x y d1 d2 w e p1 p2 q Q k
  cases d1 <;> cases d2 <;> simp only [ixD, reduceCtorEq, Option.map_eq_some_iff] at q
  case lst.int ds i =>
    obtain ⟨d, h, rfl⟩ := q
    obtain ⟨a, vs, rfl, h1, q1⟩ := p1.lst_inv
    obtain ⟨v, h2, h3⟩ := q1.atI h
    rw [p2.int_inv]
    exact .inl ⟨a, vs, i, v, rfl, rfl, SqL.of h1, h2, k _ B H (.old h3)⟩
  case tup.int ds i =>
    obtain ⟨d, h, rfl⟩ := q
    obtain ⟨a, vs, rfl, h1, _, q1⟩ := p1.tup_inv e
    obtain ⟨v, h2, h3⟩ := q1.atI h
    rw [p2.int_inv]
    exact .inr (.inl ⟨a, vs, i, v, rfl, rfl, h1, h2, k _ B H (.old h3)⟩)
  case scr.int ns i =>
    obtain ⟨n, h, rfl⟩ := q
    cases p1 with
    | scr h1 =>
      rw [p2.int_inv]
      exact .inl ⟨_, _, i, .int n, rfl, rfl, ex_l e h1, by rw [atI_map, h]; rfl, k _ B H (.old (.int _))⟩
  case str.int z i =>
    split at q
    · rename_i hz
      simp only [Option.map_eq_some_iff] at q
      obtain ⟨cd, h, rfl⟩ := q
      rw [p1.str_inv, p2.int_inv]
      exact .inr (.inr ⟨z, i, cd, rfl, rfl, line_ok hz, h, k _ B H (.old (.str _))⟩)
    · cases q
theorem je_at (ha : JE X c E a sa) (hb : JE X c E b sb) (hs : PlainIx b := by intro _ _; rfl) : JE X c E (.Subscript a b pos) (sOp2 ixD sa sb) := je_ix ix_seq ro_ix ha hb hs
end
end
end Eng

namespace Eng
open PySem PySem.Spec PyProof.Rows L2 Evl
variable [Tb]

/-! ### a def's promise where no repr is under way -/
/-- as FnOk, for callers above which no repr is under way -/
structure FnG (P : Program) (w : World) (K : PySem.W.Frag) (mg : Str → Option Value) (base : Heap) (CX : CXT) (k : Nat) (f : Addr) (fd : FuncData) (ps : List Str) (sp : Sp) : Prop where
  len : ∀ vs H Q E, sp vs H Q E → vs.length = ps.length
  run : ∀ (A : Around) (outer : List Env) (s : Shared) (H : Hp) (args : Args) (us : List Value) (vs : List V) (Q : VK) (E : XK), Room k A → A.guards = some [] → Env0 P w K mg base A outer s H →
    BindsTo s fd args (ps.zip us) → Vals vs us → sp vs H Q E → codeAny (model P w) A (.call (.ref f) args) (CR CX outer P w H s Q E) s
section
variable {P : Program} {w : World} {K : PySem.W.Frag} {mg : Str → Option Value} {base : Heap} {CX : CXT} {j k : Nat} {f : Addr} {fd : FuncData} {ps : List Str} {sp sp' : Sp}
theorem FnG.mono (F : FnG P w K mg base CX j f fd ps sp) (h : j ≤ k) : FnG P w K mg base CX k f fd ps sp := ⟨F.len, fun A o s H a us vs Q E hr => F.run A o s H a us vs Q E (hr.mono h)⟩
theorem FnG.of (F : FnOk P w K mg base CX k f fd ps sp) : FnG P w K mg base CX k f fd ps sp := ⟨F.len, fun A o s H a us vs Q E hr _ => F.run A o s H a us vs Q E hr⟩
theorem FnG.imp (F : FnG P w K mg base CX k f fd ps sp) (h : ∀ vs H Q E, sp' vs H Q E → sp vs H Q E) : FnG P w K mg base CX k f fd ps sp' :=
  ⟨fun vs H Q E q => F.len vs H Q E (h _ _ _ _ q), fun A o s H a us vs Q E hr hg e b v q => F.run A o s H a us vs Q E hr hg e b v (h _ _ _ _ q)⟩
/-- a def of the text, by its body -/
theorem fnG_mkL {x qual : Str} {st : Stmt} {N : List Str} (F : Fun K x qual st f fd) (S : FnScope N ps (defScope st)) (len : ∀ vs H Q E, sp vs H Q E → vs.length = ps.length)
    (hbody : ∀ (cdv : Value), fd.code = cdv → ∀ (A : Around) (outer : List Env) (s : Shared) (H : Hp) (vs : List V) (Q : VK) (E : XK), Room k (A.deeper (envOfC qual (defScope st) s.heap.objs.size f cdv)) → A.guards = some [] → sp vs H Q E →
      ∃ t, PSs (cxOf CX P w K mg base N qual (defScope st) f cdv A outer s H E) (defBody st) t ∧ t { nx := fun _ H' => Q .non H', rt := Q } (start N vs) H) : FnG P w K mg base CX (k + 1) f fd ps sp := by
  obtain ⟨oc, od, kV, doc, pm, an, cdv, ct, osl, rfl, lk, hcd⟩ := F.ex
  refine ⟨len, fun A outer s H args us vs Q E hr hg e0 hb r hsp => ?_⟩
  have KX : K.In s.heap := e0.mod.kin.keeps fun b o e => (e0.bs b o e).1
  have lim : s.heap.NoLimit := e0.mod.nolimit.keeps fun b o e => (e0.bs b o e).1
  have kinds : ∀ y ∈ ps.zip us, (defScope st).names.lookup y.1 = some .local ∨ ((defScope st).names.lookup y.1 = some .cell ∧ ((cellsFrom (s.heap.objs.size + 1) (defScope st).names []).lookup y.1).isSome = true) := by
    rintro ⟨n, v⟩ hy
    rcases S.par n (List.of_mem_zip hy).1 with z | z
    · exact .inl z
    · exact .inr ⟨z, PySem.W.cellsFrom_some _ _ _ (.inl z)⟩
  refine codeAny_call_function hr.depth (KX _ _ lk) rfl S.co S.gen rfl (PySem.W.codeRec_of KX hcd) (hb _ _ _ _ (wpAny_newFunctionEnv_cells S.kind kinds fun env he s1 x => ?_))
  subst he
  obtain ⟨t, ht, hq⟩ := hbody cdv rfl A outer s H vs Q E (hr.deeper _) hg hsp
  refine ⟨lim.keeps x.toInCall.keep, codeAny_func (wpAny_mono (ht.run [] s1 (start N vs) H _ (inv_start S hr.hd e0 (len _ _ _ _ hsp) r x) hq) (fun fl s' hs => ?_) fun _ _ z => z)⟩
  cases fl with
  | ret u =>
    obtain ⟨v, σ', H', J, rv, q⟩ := hs
    exact ⟨v, H', J.os, J.bare, J.base, J.hok, rv, q⟩
  | next =>
    obtain ⟨σ', H', J, q⟩ := hs
    exact ⟨.non, H', J.os, J.bare, J.base, J.hok, rfl, q⟩
  | brk => exact hs.elim fun _ z => z.elim fun _ z => z.2.elim
  | cont => exact hs.elim fun _ z => z.elim fun _ z => z.2.elim
theorem fnG_mk {x qual : Str} {st : Stmt} {N : List Str} (F : Fun K x qual st f fd) (S : FnScope N ps (defScope st)) (len : ∀ vs H Q E, sp vs H Q E → vs.length = ps.length)
    (hbody : ∀ (cdv : Value) (A : Around) (outer : List Env) (s : Shared) (H : Hp) (vs : List V) (Q : VK) (E : XK), Room k (A.deeper (envOfC qual (defScope st) s.heap.objs.size f cdv)) → A.guards = some [] → sp vs H Q E →
      ∃ t, PSs (cxOf CX P w K mg base N qual (defScope st) f cdv A outer s H E) (defBody st) t ∧ t { nx := fun _ H' => Q .non H', rt := Q } (start N vs) H) : FnG P w K mg base CX (k + 1) f fd ps sp := fnG_mkL F S len fun cdv _ => hbody cdv
end
section
variable {X : Cx} {CX : CXT} {k : Nat} {f C : Addr} {fd : FuncData} {ps ks : List Str} {sp : Sp} {E : XS} {x m : Str} {p pos apos kpos : Pos} {e o : Expr} {es : List Expr} {kws : List Keyword} {t tk : TA}
theorem cr_end {pins : List (Addr × Obj)} {σ : L2.St} {H : Hp} {s : Shared} {Q : VK} (hx : PassesAt CX X σ (E σ)) (I : Inv X pins σ H s) {r : Result} {s' : Shared} (h : CR CX X.stack X.prog X.w H s Q (E σ) r s') :
    match (motive := Result → Prop) r with
    | .ok (.ret v) => EP X pins σ Q v s'
    | .ok _ => False
    | .error e => X.xe e s' := by
  cases r with
  | error e => exact hx pins H s e s' I h
  | ok fl =>
    cases fl with
    | ret u => exact I.after h
    | next => exact h
    | brk => exact h
    | cont => exact h
theorem run_fnG {pins : List (Addr × Obj)} {σ : L2.St} {H : Hp} {s : Shared} {Q : VK} {us : List Value} {vs : List V} (F : FnG X.prog X.w X.K X.mg X.base CX k f fd ps sp) (hr : Room k X.A) (hgd : X.A.guards = some []) (hb : Binds X.K fd ps []) (hx : PassesAt CX X σ (E σ))
    (I : Inv X pins σ H s) (r : Vals vs us) (h : sp vs H Q (E σ)) : wpAny (model X.prog X.w) X.A (call (.ref f) us) (EP X pins σ Q) X.xe s := by
  have hl : (us ++ []).length = ps.length := by
    rw [List.append_nil, ← r.length]
    exact F.len _ _ _ _ h
  have b := hb s us I.kIn hl
  rw [List.append_nil] at b
  refine wpAny_call (codeAny_mono (F.run X.A X.stack s H ⟨us, []⟩ us vs Q (E σ) hr hgd I.env0 b r h) fun r s' hq => ?_)
  have z := cr_end hx I hq
  cases r with
  | error e => exact z
  | ok fl => cases fl <;> exact z
theorem peG_call (F : FnG X.prog X.w X.K X.mg X.base CX k f fd ps sp) (hr : Room k X.A) (hgd : X.A.guards = some []) (hg : Gl X x) (hm : X.mg x = some (.ref f)) (hk : PySem.W.keepIn X.K (.ref f) = true) (hb : Binds X.K fd ps []) (hx : ∀ σ, PassesAt CX X σ (E σ))
    (ha : PA X (e :: es) t) (hd : (x == ("__debug__" : Str)) = false := by decide) (he : starEach (e :: es) X.env = (false, eval e X.env) :: starEach es X.env := by rfl) (hpl : (backTo pos (starEach es X.env)).any (·.1) = false := by rfl) :
    PE X (.Call (.Name x p) (e :: es) [] pos) (fun σ H Q => t σ H fun vs H1 => sp vs H1 Q (E σ)) := by
  constructor
  intro pins s σ H Q I h
  refine wpAny_Call_Name_kw (ld_glob I hg hm ?_ hd)
  exact PySem.W.callWith_K (h₀ := X.base) I.ok.mod.kin hk (thn (ha.run pos pins s σ H _ I h) fun us s1 ⟨vs, H1, I1, r, q⟩ => ⟨I1.kIn, run_fnG F hr hgd hb (hx σ) I1 r q⟩) he hpl
/-- how keywords bind: the positional values, the keywords' values, in the parameters' order (no defaults) -/
theorem peG_callK {g : List Value → List Value → List Value} {gV : List V → List V → List V} (F : FnG X.prog X.w X.K X.mg X.base CX k f fd ps sp) (hr : Room k X.A) (hgd : X.A.guards = some []) (hg : Gl X x) (hm : X.mg x = some (.ref f)) (hk : PySem.W.keepIn X.K (.ref f) = true)
    (hb : KBinds X.K fd ps ks g gV) (hx : ∀ σ, PassesAt CX X σ (E σ)) (ha : PA X es t) (hkw : PK X kws tk)
    (hcw : ∀ (s : Shared) (Q : Value → Shared → Prop), wpAny (model X.prog X.w) X.A (spliced (backTo pos (starEach es X.env))) (fun us s1 => wpAny (model X.prog X.w) X.A (evalAll ((backToKw pos (keywordEach kws X.env)).map (·.2))) (fun ws s2 => X.K.In s2.heap ∧
      wpAny (model X.prog X.w) X.A (call (.ref f) us (ks.zip ws)) Q X.xe s2) X.xe s1) X.xe s → wpAny (model X.prog X.w) X.A (callWith pos (.ref f) [] (backTo pos (starEach es X.env)) (backToKw pos (keywordEach kws X.env))) Q X.xe s) (hd : (x == ("__debug__" : Str)) = false := by decide) :
    PE X (.Call (.Name x p) es kws pos) (fun σ H Q => t σ H fun vs H1 => tk σ H1 fun zs H2 => sp (gV vs zs) H2 Q (E σ)) := by
  constructor
  intro pins s σ H Q I h
  refine wpAny_Call_Name_kw (ld_glob I hg hm ?_ hd)
  refine hcw _ _ (thn (ha.run pos pins s σ H _ I h) fun us s1 ⟨vs, H1, I1, r, q⟩ => thn (hkw.run pos pins s1 σ H1 _ I1 q) fun ws s2 ⟨zs, H2, I2, rz, q2⟩ => ⟨I2.kIn, ?_⟩)
  have r2 := hb.rel r rz
  have hl : (g us ws).length = ps.length := by
    rw [← r2.length]
    exact F.len _ _ _ _ q2
  refine wpAny_call (codeAny_mono (F.run X.A X.stack s2 H2 ⟨us, ks.zip ws⟩ (g us ws) (gV vs zs) Q (E σ) hr hgd I2.env0 (hb.to s2 us ws I2.kIn hl) r2 q2) fun r s' hq => ?_)
  have z := cr_end (hx σ) I2 hq
  cases r with
  | error e => exact z
  | ok fl => cases fl <;> exact z
end
end Eng

namespace Eng
open PySem PySem.Spec PyProof.Rows L2 Evl
variable [Tb]

/-! ### statements -/
section
variable (K : PySem.W.Frag) (c : Cc)
structure AftS (B H : Hp) (σ : L2.St) (s : S) (B' H' : Hp) (σ' : L2.St) (s' : S) : Prop where
  st : Stp c B H σ s.env B' H' σ' s'.env
  si : Sim K c B' H' σ' s'
variable (E : XS) (B0 H0 : Hp) (σ0 : L2.St) (s0 : S)
def XPostS (x : Xc) (s' : S) : Prop := ∀ cls dd B' H' σ', AftS K c B0 H0 σ0 s0 B' H' σ' s' → XcOk K B' H' x cls dd → E σ' cls dd H'
def PostS (r : Res Out) (D : Ends) : Prop := match r with
  | .ok .next s' => ∀ B' H' σ', AftS K c B0 H0 σ0 s0 B' H' σ' s' → D.nx σ' H'
  | .ok .brk s' => ∀ B' H' σ', AftS K c B0 H0 σ0 s0 B' H' σ' s' → D.bk σ' H'
  | .ok .cont s' => ∀ B' H' σ', AftS K c B0 H0 σ0 s0 B' H' σ' s' → D.ct σ' H'
  | .ok (.ret d) s' => ∀ v B' H' σ', AftS K c B0 H0 σ0 s0 B' H' σ' s' → Dq K B' v d → D.rt v H'
  | .exc x s' => XPostS K c E B0 H0 σ0 s0 x s'
  | .bad => False
end
def trS (K : PySem.W.Frag) (c : Cc) (E : XS) (ss : SS) : TS := fun D σ H => ∃ B s, Sim K c B H σ s ∧ PostS K c E B H σ s (ss s) D
abbrev JS (X : Cx) (c : Cc) (E : XS) (st : Stmt) (ss : SS) : Prop := PS X st (trS X.K c E ss)
abbrev JSs (X : Cx) (c : Cc) (E : XS) (st : List Stmt) (ss : SS) : Prop := PSs X st (trS X.K c E ss)
section
variable {K : PySem.W.Frag} {c : Cc} {E : XS} {B H B0 H0 B1 H1 B2 H2 : Hp} {σ σ0 σ1 σ2 : L2.St} {s s0 s1 s2 : S} {v : V} {w : Vw} {Q : VK} {D : Ends}
theorem AftS.refl (I : Sim K c B H σ s) : AftS K c B H σ s B H σ s := ⟨.refl, I⟩
theorem AftS.trans (p : AftS K c B H σ s B1 H1 σ1 s1) (q : AftS K c B1 H1 σ1 s1 B2 H2 σ2 s2) : AftS K c B H σ s B2 H2 σ2 s2 := ⟨p.st.trans q.st, q.si⟩
theorem Aft.toS (A : Aft K c B H σ s B1 H1 s1) : AftS K c B H σ s B1 H1 σ s1 := ⟨A.st, A.si⟩
theorem aft_postS {r : Res Out} (A : AftS K c B0 H0 σ0 s0 B H σ s) (h : PostS K c E B0 H0 σ0 s0 r D) : PostS K c E B H σ s r D := by
  cases r with
  | ok o s' =>
    cases o with
    | next => exact fun B' H' σ' A' => h B' H' σ' (A.trans A')
    | brk => exact fun B' H' σ' A' => h B' H' σ' (A.trans A')
    | cont => exact fun B' H' σ' A' => h B' H' σ' (A.trans A')
    | ret d => exact fun v B' H' σ' A' => h v B' H' σ' (A.trans A')
  | exc x s' => exact fun cls dd B' H' σ' A' => h cls dd B' H' σ' (A.trans A')
  | bad => exact h
/-- an expression at the beginning of a statement -/
theorem bindES {se : SE} {k : Vw → S → Res Out} (I : Sim K c B H σ s) (h : PostS K c E B H σ s ((se s).bind k) D) :
    trE K c E se σ H fun x H1 => ∃ B1 s1 w, Aft K c B H σ s B1 H1 s1 ∧ VwOk K c B1 H1 σ s1 x w ∧ New H x w ∧ PostS K c E B H σ s (k w s1) D :=
  trE_mono (bindE (P := fun r => PostS K c E B H σ s r D) (.refl I) h (fun x s' q cls dd B' H' A => q cls dd B' H' σ A.toS) id) fun _ _ ⟨B1, s1, w, A, _, V, N, q⟩ => ⟨B1, s1, w, A, V, N, q⟩
theorem bindTS {se : SB} {k : Bool → S → Res Out} (I : Sim K c B H σ s) (h : PostS K c E B H σ s ((se s).bind k) D) :
    trT K c E se σ H fun b H1 => ∃ B1 s1, Aft K c B H σ s B1 H1 s1 ∧ PostS K c E B H σ s (k b s1) D :=
  bindT (P := fun r => PostS K c E B H σ s r D) (.refl I) h (fun x s' q cls dd B' H' A => q cls dd B' H' σ A.toS) id
theorem bindAS {se : SA} {k : List Eng.D → S → Res Out} (I : Sim K c B H σ s) (h : PostS K c E B H σ s ((se s).bind k) D) :
    trA K c E se σ H fun vs H1 => ∃ B1 s1 ds, Aft K c B H σ s B1 H1 s1 ∧ DqAll K B1 vs ds ∧ PostS K c E B H σ s (k ds s1) D :=
  trA_mono (bindA (P := fun r => PostS K c E B H σ s r D) (.refl I) h (fun x s' q cls dd B' H' A => q cls dd B' H' σ A.toS) id) fun _ _ ⟨B1, s1, ds, A, _, V, q⟩ => ⟨B1, s1, ds, A, V, q⟩

/-! ### storing into a slot -/
/-- what a slot comes to hold -/
def stow (w : Vw) (s : S) : Res Sl := match w with
  | .dat d => .ok (.val d) s
  | .fr ds => .ok (.own ds) s
  | .cup => .ok .cup s
  | .slot _ => (frz w s).bind fun d s1 => .ok (.val d) s1
theorem set_get {l : List Sl} {i j : Nat} {x y : Sl} (h : (l.set i x)[j]? = some y) : (j = i ∧ y = x) ∨ (j ≠ i ∧ l[j]? = some y) := by
  by_cases z : i = j
  · subst z
    rw [List.getElem?_set] at h
    simp at h
    exact .inl ⟨rfl, h.2.symm⟩
  · rw [List.getElem?_set_ne z] at h
    exact .inr ⟨fun e => z e.symm, h⟩
theorem setV_ne {i j : Nat} {x : Option V} (h : j ≠ i) : (σ.set i x)[j]? = σ[j]? := List.getElem?_set_ne (fun e => h e.symm)
theorem own_in {i : Nat} {ds : List Eng.D} {a : Addr} {sl : Sl} {vx : Option V} (h : Own (s.env.set i sl) (σ.set i vx) a) : Own s.env σ a ∨ ∃ ds, sl = .own ds ∧ vx = some (.ref a) := by
  obtain ⟨j, es, h1, h2⟩ := h
  rcases set_get h1 with ⟨rfl, e⟩ | ⟨n, e⟩
  · rw [List.getElem?_set] at h2
    simp at h2
    exact .inr ⟨es, e.symm, h2.2⟩
  · rw [setV_ne n] at h2
    exact .inl ⟨j, es, e, h2⟩
/-- the state with a slot set -/
theorem set_val (I : Sim K c B H σ s) {i : Nat} {d : Eng.D} (h : Dq K B v d) : AftS K c B H σ s B H (σ.set i (some v)) (setSl s i (.val d)) := by
  have ow : ∀ a, Own (s.env.set i (.val d)) (σ.set i (some v)) a → Own s.env σ a := fun a z => (own_in (ds := []) z).elim id fun ⟨ds, e, _⟩ => nomatch e
  refine ⟨⟨Ex.refl B, fun _ _ h _ _ _ => h, fun a o h => .inl (by rw [h]; simp), fun a z => .inl (ow a z), fun a o h t => ⟨o, h, t⟩⟩, ⟨I.ex, by simpa [setSl] using I.len, fun j sl hj => ?_, fun j k ds es a hj hk h1 h2 => ?_, fun a ha => ?_, I.tb⟩⟩
  · rcases set_get hj with ⟨rfl, e⟩ | ⟨n, e⟩
    · subst e
      refine ⟨v, ?_, h⟩
      have hl : j < s.env.length := by
        have z := (List.getElem?_eq_some_iff.mp hj).1
        simpa [setSl] using z
      rw [List.getElem?_set_self (by rw [I.len]; exact hl)]
    · have z := I.slot j sl e
      cases sl with
      | no => trivial
      | val d' => obtain ⟨v', q1, q2⟩ := z; exact ⟨v', by rw [setV_ne n]; exact q1, q2⟩
      | own ds => obtain ⟨a, vs, q1, q2⟩ := z; exact ⟨a, vs, by rw [setV_ne n]; exact q1, q2⟩
      | cup => obtain ⟨a, q1, q2⟩ := z; exact ⟨a, q1, by rw [setV_ne n]; exact q2⟩
      | xcp x => obtain ⟨a, cl, dd, q0, q1, q2⟩ := z; exact ⟨a, cl, dd, q0, by rw [setV_ne n]; exact q1, q2⟩
  · rcases set_get hj with ⟨_, e⟩ | ⟨n, e⟩
    · cases e
    · rcases set_get hk with ⟨_, e'⟩ | ⟨n', e'⟩
      · cases e'
      · rw [setV_ne n] at h1
        rw [setV_ne n'] at h2
        exact I.dis j k ds es a e e' h1 h2
  · obtain ⟨q1, q2, q3⟩ := I.cu a ha
    exact ⟨q1, q2, fun z => q3 (ow a z)⟩
theorem set_fr (I : Sim K c B H σ s) {i : Nat} {ds : List Eng.D} (hV : VwOk K c B H σ s v (.fr ds)) (h0 : ∀ p, v = .ref p → Nn H0 p) (st : Stp c B0 H0 σ0 s0.env B H σ s.env) : AftS K c B0 H0 σ0 s0 B H (σ.set i (some v)) (setSl s i (.own ds)) := by
  obtain ⟨p, vs, rfl, h1, h2, h3, h4, h5⟩ := hV
  have ow : ∀ a, Own (s.env.set i (.own ds)) (σ.set i (some (.ref p))) a → Own s.env σ a ∨ a = p := fun a z => (own_in (ds := []) z).elim .inl fun ⟨ds, _, e⟩ => by cases e; exact .inr rfl
  refine ⟨⟨st.bb, st.hh, st.gr, fun a z => ?_, st.th⟩, ⟨I.ex, by simpa [setSl] using I.len, fun j sl hj => ?_, fun j k xs es a hj hk z1 z2 => ?_, fun a ha => ?_, I.tb⟩⟩
  · rcases ow a z with z | z
    · exact st.ow a z
    · rw [z]; exact .inr (h0 p rfl)
  · rcases set_get hj with ⟨rfl, e⟩ | ⟨n, e⟩
    · subst e
      refine ⟨p, vs, ?_, h1, h2, h3⟩
      have hl : j < s.env.length := by
        have z := (List.getElem?_eq_some_iff.mp hj).1
        simpa [setSl] using z
      rw [List.getElem?_set_self (by rw [I.len]; exact hl)]
    · have z := I.slot j sl e
      cases sl with
      | no => trivial
      | val d' => obtain ⟨v', q1, q2⟩ := z; exact ⟨v', by rw [setV_ne n]; exact q1, q2⟩
      | own ds => obtain ⟨a, vs, q1, q2⟩ := z; exact ⟨a, vs, by rw [setV_ne n]; exact q1, q2⟩
      | cup => obtain ⟨a, q1, q2⟩ := z; exact ⟨a, q1, by rw [setV_ne n]; exact q2⟩
      | xcp x => obtain ⟨a, cl, dd, q0, q1, q2⟩ := z; exact ⟨a, cl, dd, q0, by rw [setV_ne n]; exact q1, q2⟩
  · rcases set_get hj with ⟨rfl, e⟩ | ⟨n, e⟩
    · rcases set_get hk with ⟨rfl, e'⟩ | ⟨n', e'⟩
      · rfl
      · rw [setV_ne n'] at z2
        rw [List.getElem?_set] at z1
        simp at z1
        rw [← z1.2] at z2
        exact absurd ⟨k, es, e', z2⟩ h4
    · rcases set_get hk with ⟨rfl, e'⟩ | ⟨n', e'⟩
      · rw [setV_ne n] at z1
        rw [List.getElem?_set] at z2
        simp at z2
        rw [← z2.2] at z1
        exact absurd ⟨j, xs, e, z1⟩ h4
      · rw [setV_ne n] at z1
        rw [setV_ne n'] at z2
        exact I.dis j k xs es a e e' z1 z2
  · obtain ⟨q1, q2, q3⟩ := I.cu a ha
    refine ⟨q1, q2, fun z => ?_⟩
    rcases ow a z with z | z
    · exact q3 z
    · rw [z] at ha; exact h5 ha
theorem set_cup (I : Sim K c B H σ s) {i : Nat} (hV : VwOk K c B H σ s v .cup) : AftS K c B H σ s B H (σ.set i (some v)) (setSl s i .cup) := by
  obtain ⟨p, hp, rfl⟩ := hV
  have ow : ∀ a, Own (s.env.set i .cup) (σ.set i (some (.ref p))) a → Own s.env σ a := fun a z => (own_in (ds := []) z).elim id fun ⟨ds, e, _⟩ => nomatch e
  refine ⟨⟨Ex.refl B, fun _ _ h _ _ _ => h, fun a o h => .inl (by rw [h]; simp), fun a z => .inl (ow a z), fun a o h t => ⟨o, h, t⟩⟩, ⟨I.ex, by simpa [setSl] using I.len, fun j sl hj => ?_, fun j k ds es a hj hk h1 h2 => ?_, fun a ha => ?_, I.tb⟩⟩
  · rcases set_get hj with ⟨rfl, e⟩ | ⟨n, e⟩
    · subst e
      refine ⟨p, hp, ?_⟩
      have hl : j < s.env.length := by
        have z := (List.getElem?_eq_some_iff.mp hj).1
        simpa [setSl] using z
      rw [List.getElem?_set_self (by rw [I.len]; exact hl)]
    · have z := I.slot j sl e
      cases sl with
      | no => trivial
      | val d' => obtain ⟨v', q1, q2⟩ := z; exact ⟨v', by rw [setV_ne n]; exact q1, q2⟩
      | own ds => obtain ⟨a, vs, q1, q2⟩ := z; exact ⟨a, vs, by rw [setV_ne n]; exact q1, q2⟩
      | cup => obtain ⟨a, q1, q2⟩ := z; exact ⟨a, q1, by rw [setV_ne n]; exact q2⟩
      | xcp x => obtain ⟨a, cl, dd, q0, q1, q2⟩ := z; exact ⟨a, cl, dd, q0, by rw [setV_ne n]; exact q1, q2⟩
  · rcases set_get hj with ⟨_, e⟩ | ⟨n, e⟩
    · cases e
    · rcases set_get hk with ⟨_, e'⟩ | ⟨n', e'⟩
      · cases e'
      · rw [setV_ne n] at h1
        rw [setV_ne n'] at h2
        exact I.dis j k ds es a e e' h1 h2
  · obtain ⟨q1, q2, q3⟩ := I.cu a ha
    exact ⟨q1, q2, fun z => q3 (ow a z)⟩
/-- a value stored into a slot -/
theorem stow_ok (A : Aft K c B0 H0 σ s0 B H s) (hV : VwOk K c B H σ s v w) (hN : New H0 v w) {i : Nat} {sl : Sl} (e : stow w s = .ok sl s1) : ∃ B1, AftS K c B0 H0 σ s0 B1 H (σ.set i (some v)) (setSl s1 i sl) := by
  cases w with
  | dat d =>
    cases e
    exact ⟨B, A.toS.trans (set_val A.si hV)⟩
  | fr ds =>
    cases e
    exact ⟨B, set_fr A.si hV hN A.st⟩
  | cup =>
    cases e
    exact ⟨B, A.toS.trans (set_cup A.si hV)⟩
  | slot j =>
    simp only [stow] at e
    cases z : frz (.slot j) s with
    | ok d s' =>
      rw [z] at e
      cases e
      obtain ⟨B1, A1, q⟩ := frz_ok A hV trivial z
      exact ⟨B1, A1.toS.trans (set_val A1.si q)⟩
    | exc x s' => rw [z] at e; cases e
    | bad => rw [z] at e; cases e
end

/-! ### the statements -/
def sNext : SS := fun s => .ok .next s
def sSeq (a b : SS) : SS := fun s => (a s).bind fun o s1 => match o with
  | .next => b s1
  | o => .ok o s1
section
variable {X : Cx} {c : Cc} {E : XS} {pos : Pos}
theorem js_nil : JSs X c E [] sNext := pss_imp pss_nil fun D σ H ⟨B, s, I, q⟩ => q B H σ (.refl I)
theorem seq_run {K : PySem.W.Frag} {a b : SS} {D : Ends} {σ : L2.St} {H : Hp} (h : trS K c E (sSeq a b) D σ H) : tSeq (trS K c E a) (trS K c E b) D σ H := by
  obtain ⟨B, s, I, q⟩ := h
  refine ⟨B, s, I, ?_⟩
  unfold sSeq at q
  cases e : a s with
  | ok o s1 =>
    rw [e] at q
    cases o with
    | next => exact fun B' H' σ' A => ⟨B', s1, A.si, aft_postS A q⟩
    | brk => exact q
    | cont => exact q
    | ret d => exact q
  | exc x s1 => rw [e] at q; exact q
  | bad => rw [e] at q; exact q
theorem js_cons {st : Stmt} {rest : List Stmt} {a b : SS} (h : JS X c E st a) (h2 : JSs X c E rest b) : JSs X c E (st :: rest) (sSeq a b) := pss_imp (pss_cons h h2) fun _ _ _ q => seq_run q
theorem js_one {st : Stmt} {a : SS} (h : JS X c E st a) : JSs X c E [st] a := pss_one h
theorem js_pass : JS X c E (.Pass pos) sNext := ps_imp ps_pass fun D σ H ⟨B, s, I, q⟩ => q B H σ (.refl I)
def sBrk : SS := fun s => .ok .brk s
def sCont : SS := fun s => .ok .cont s
theorem js_break : JS X c E (.Break pos) sBrk := ps_imp ps_break fun D σ H ⟨B, s, I, q⟩ => q B H σ (.refl I)
theorem js_continue : JS X c E (.Continue pos) sCont := ps_imp ps_continue fun D σ H ⟨B, s, I, q⟩ => q B H σ (.refl I)
def sNever : SS := fun _ => .bad
theorem js_never {st : Stmt} : JS X c E st sNever := ps_imp ps_never fun D σ H ⟨_, _, _, q⟩ => q
/-- an expression whose value is dropped -/
def sDrop (se : SE) : SS := fun s => (se s).bind fun _ s1 => .ok .next s1
theorem js_expr {e : Expr} {se : SE} (h : JE X c E e se) (hs : swapsWith e none pos.line X.env = pure false := by rfl) : JS X c E (.Expr e pos) (sDrop se) := ps_imp (ps_expr h hs) fun D σ H ⟨B, s, I, q⟩ =>
  trE_mono (bindES I q) fun x H1 ⟨B1, s1, w, A, V, N, q⟩ => q B1 H1 σ A.toS
/-- return -/
def sRet (se : SE) : SS := fun s => (se s).bind fun w s1 => (frz w s1).bind fun d s2 => .ok (.ret d) s2
theorem frz_exc {w : Vw} {s s' : S} {x : Xc} : frz w s ≠ .exc x s' := by
  cases w with
  | dat d => intro z; cases z
  | fr d => intro z; cases z
  | cup => intro z; cases z
  | slot i =>
    simp only [frz]
    cases s.env[i]? with
    | none => intro z; cases z
    | some sl => cases sl <;> (intro z; cases z)
theorem js_ret {e : Expr} {se : SE} (h : JE X c E e se) : JS X c E (.Return (some e) pos) (sRet se) := ps_imp (ps_ret h) fun D σ H ⟨B, s, I, q⟩ => by
  refine trE_mono (bindES I q) fun x H1 ⟨B1, s1, w, A, V, N, q⟩ => ?_
  cases z : frz w s1 with
  | ok d s2 =>
    rw [z] at q
    obtain ⟨B2, A2, dq⟩ := frz_ok A V N z
    exact q x B2 H1 σ A2.toS dq
  | exc y s2 => exact absurd z frz_exc
  | bad => rw [z] at q; exact q.elim
def sRetN : SS := fun s => .ok (.ret .non) s
theorem js_retN : JS X c E (.Return none pos) sRetN := ps_imp ps_retN fun D σ H ⟨B, s, I, q⟩ => q .non B H σ (.refl I) .non
/-- if -/
def sIfS (t : SB) (a b : SS) : SS := fun s => (t s).bind fun k s1 => match k with
  | true => a s1
  | false => b s1
theorem js_if {e : Expr} {st su : List Stmt} {t : SB} {a b : SS} (ht : JT X c E e t) (ha : JSs X c E st a) (hb : JSs X c E su b) : JS X c E (.If e st su pos) (sIfS t a b) := ps_imp (ps_if ht ha hb) fun D σ H ⟨B, s, I, q⟩ => by
  refine trT_mono (bindTS I q) fun k H1 ⟨B1, s1, A, q⟩ => ?_
  cases k with
  | true => exact iteT ⟨B1, s1, A.si, aft_postS A.toS q⟩
  | false => exact iteF ⟨B1, s1, A.si, aft_postS A.toS q⟩
/-- name = e -/
def sAsg (i : Nat) (se : SE) : SS := fun s => (se s).bind fun w s1 => (stow w s1).bind fun sl s2 => .ok .next (setSl s2 i sl)
theorem stow_exc {w : Vw} {s s' : S} {x : Xc} : stow w s ≠ .exc x s' := by
  cases w with
  | dat d => intro z; cases z
  | fr d => intro z; cases z
  | cup => intro z; cases z
  | slot i =>
    unfold stow
    cases z : frz (.slot i) s with
    | ok d s1 => intro q; cases q
    | exc y s1 => exact absurd z frz_exc
    | bad => intro q; cases q
theorem asg_run {K : PySem.W.Frag} {i : Nat} {se : SE} {D : Ends} {σ : L2.St} {H : Hp} (h : trS K c E (sAsg i se) D σ H) : tAsg (trE K c E se) (gName i) D σ H := by
  obtain ⟨B, s, I, q⟩ := h
  refine trE_mono (bindES I q) fun x H1 ⟨B1, s1, w, A, V, N, q⟩ => ?_
  cases z : stow w s1 with
  | ok sl s2 =>
    rw [z] at q
    obtain ⟨B2, A2⟩ := stow_ok (i := i) A V N z
    exact q B2 H1 _ A2
  | exc y s2 => exact absurd z stow_exc
  | bad => rw [z] at q; exact q.elim
theorem js_set {i : Nat} {x : Str} {e : Expr} {se : SE} {pos' : Pos} (h : JE X c E e se) (hN : X.N.Nodup) (hi : X.N[i]? = some x := by rfl) (hx : Loc X.env.scope x := by first | exact Or.inl rfl | exact Or.inr rfl) (hs : swapsWith e (some (.Name x pos')) pos.line X.env = pure false := by rfl)
    (hf : X.fn x = true ∨ X.env.scope.names.lookup x = some .local := by first | exact .inl rfl | exact .inr rfl | assumption) : JS X c E (.Assign [.Name x pos'] e pos) (sAsg i se) := ps_imp (ps_set hN hi hx h hs hf) fun _ _ _ q => asg_run q
end
end Eng

namespace Eng
open PySem PySem.Spec PyProof.Rows L2 Evl
variable [Tb]

/-! ### argument lists, displays -/
def sNil : SA := fun s => .ok [] s
def sCons (sa : SE) (sr : SA) : SA := fun s => (sa s).bind fun w s1 => (frz w s1).bind fun d s2 => (sr s2).bind fun ds s3 => .ok (d :: ds) s3
section
variable {X : Cx} {c : Cc} {E : XS} {pos : Pos} {K : PySem.W.Frag} {B H B0 H0 : Hp} {σ : L2.St} {s s0 : S}
theorem aft_postD {r : Res (List D)} {Q : List V → Hp → Prop} (A : Aft K c B0 H0 σ s0 B H s) (h : PostD K c E B0 H0 σ s0 r Q) : PostD K c E B H σ s r Q := by
  cases r with
  | ok b s' => exact fun vs B' H' A' q => h vs B' H' (A.trans A') q
  | exc x s' => exact XPost.more A h
  | bad => exact h
theorem ja_nil : JA X c E [] sNil := pa_imp pa_nil fun σ H Q ⟨B, s, I, q⟩ => q [] B H (.refl I) .nil
theorem cons_run {sa : SE} {sr : SA} {Q : List V → Hp → Prop} {H : Hp} (h : trA K c E (sCons sa sr) σ H Q) : tCons (trE K c E sa) (trA K c E sr) σ H Q := by
  obtain ⟨B, s, I, q⟩ := h
  refine trE_mono (bindE (P := fun r => PostD K c E B H σ s r Q) (.refl I) q (fun _ _ z => z) id) fun x H1 ⟨B1, s1, w, A1, _, V1, N1, q1⟩ => ?_
  cases z : frz w s1 with
  | ok d s2 =>
    rw [z] at q1
    obtain ⟨B2, A2, dq⟩ := frz_ok A1 V1 N1 z
    refine trA_mono (bindA (P := fun r => PostD K c E B H σ s r Q) A2 q1 (fun _ _ z => z) id) fun xs H2 ⟨B3, s3, ds, A3, A3', dqs, q3⟩ => ?_
    exact q3 _ B3 H2 A3 (.cons (dq.mono A3'.st.bb) dqs)
  | exc y s2 => exact absurd z frz_exc
  | bad => rw [z] at q1; exact q1.elim
theorem ja_cons {e : Expr} {es : List Expr} {sa : SE} {sr : SA} (ha : JE X c E e sa) (hr : JA X c E es sr) (hs : starEach (e :: es) X.env = (false, eval e X.env) :: starEach es X.env := by rfl) : JA X c E (e :: es) (sCons sa sr) :=
  pa_imp (pa_cons ha hr hs) fun _ _ _ q => cons_run q
/-- a tuple written out -/
def sTup (sa : SA) : SE := fun s => (sa s).bind fun ds s1 => if ds.length ≤ line then .ok (.dat (.tup ds)) s1 else .bad
def sLst (sa : SA) : SE := fun s => (sa s).bind fun ds s1 => if ds.length ≤ line then .ok (.fr ds) s1 else .bad
theorem je_tup {es : List Expr} {x1} {sa : SA} (h : JA X c E es sa) : JE X c E (.Tuple es x1 pos) (sTup sa) := pe_imp (pe_tup h) fun σ H Q q => by
  obtain ⟨B, s, I, q⟩ := of_tr q
  refine trA_mono (bindAP (.refl I) q) fun xs H1 ⟨B1, s1, ds, A1, _, dq, q1⟩ => ?_
  split at q1
  · rename_i z
    refine ⟨line_ok (by rw [dq.length]; exact z), fun p n => ?_⟩
    obtain ⟨a, b, n'⟩ := (Made.data (K := X.K) (B := B1) (o := .tup xs) (d := .tup ds) n (.tup (SqT.of upd_same) (dq.mono (Ex.new (bn A1.si.ex n))))).aft A1
    exact q1 _ _ _ a b n'
  · exact q1.elim
theorem je_lst {es : List Expr} {sa : SA} (h : JA X c E es sa) : JE X c E (.List es pos) (sLst sa) := pe_imp (pe_lst h) fun σ H Q q => by
  obtain ⟨B, s, I, q⟩ := of_tr q
  refine trA_mono (bindAP (.refl I) q) fun xs H1 ⟨B1, s1, ds, A1, _, dq, q1⟩ => ?_
  split at q1
  · rename_i z
    refine ⟨line_ok (by rw [dq.length]; exact z), fun p n => ?_⟩
    obtain ⟨a, b, n'⟩ := (Made.list n dq).aft A1
    exact q1 _ _ _ a b n'
  · exact q1.elim
end

/-! ### what a def does -/
inductive RD where
  | ok (d : D) (cup : Cup) | exc (x : Xc) (cup : Cup) | bad
/-- from the cup and the values of the parameters (without the cup) -/
abbrev FD := Cup → List D → RD
section
variable (K : PySem.W.Frag) (c : Option Addr)
/-- behind a call -/
structure FAft (B H B' H' : Hp) : Prop where
  bb : Ex B B'
  ex : Ex B' H'
  hh : ∀ a o, H a = some o → nT o → c ≠ some a → H' a = some o
  gr : ∀ a o, B' a = some o → B a ≠ none ∨ Nn H a
  tb : TbOk B' H'
def CupIs (B H : Hp) (cup : Cup) : Prop := ∀ a, c = some a → B a = none ∧ H a = some (cupO cup)
/-- the promise of a def without a cup -/
def spP (f : FD) : Sp := fun vs H Q E => ∃ B ds, Ex B H ∧ DqAll K B vs ds ∧ TbOk B H ∧ match f (0, 0, 0) ds with
  | .ok r _ => ∀ v B' H', FAft none B H B' H' → Dq K B' v r → Q v H'
  | .exc x _ => ∀ cls dd B' H', FAft none B H B' H' → XcOk K B' H' x cls dd → E cls dd H'
  | .bad => False
/-- .. whose first parameter is the cup -/
def spC (f : FD) : Sp := fun vs H Q E => ∃ B a us ds cup, vs = .ref a :: us ∧ Ex B H ∧ CupIs (some a) B H cup ∧ DqAll K B us ds ∧ TbOk B H ∧ match f cup ds with
  | .ok r cup' => ∀ v B' H', FAft (some a) B H B' H' → CupIs (some a) B' H' cup' → Dq K B' v r → Q v H'
  | .exc x cup' => ∀ cls dd B' H', FAft (some a) B H B' H' → CupIs (some a) B' H' cup' → XcOk K B' H' x cls dd → E cls dd H'
  | .bad => False
end
def sCall (f : FD) (sa : SA) : SE := fun s => (sa s).bind fun ds s1 => match f (0, 0, 0) ds with
  | .ok r _ => .ok (.dat r) s1
  | .exc x _ => .exc x s1
  | .bad => .bad
/-- the cup stands at i -/
def sCallC (i : Nat) (f : FD) (sa : SA) : SE := fun s => match s.env[i]? with
  | some .cup => (sa s).bind fun ds s1 => match f s1.cup ds with
    | .ok r k => .ok (.dat r) { s1 with cup := k }
    | .exc x k => .exc x { s1 with cup := k }
    | .bad => .bad
  | _ => .bad
section
variable {X : Cx} {c : Cc} {E : XS} {pos : Pos} {K : PySem.W.Frag} {B H B0 H0 B1 H1 : Hp} {σ : L2.St} {s s0 : S}
theorem call_aft (A : Aft K c B0 H0 σ s0 B H s) (F : FAft none B H B1 H1) : Aft K c B0 H0 σ s0 B1 H1 s := by
  have I := A.si
  have nb : ∀ a o, B a = none → H a = some o → nT o → B1 a = none := fun a o h1 h2 t => by
    cases e : B1 a with
    | none => rfl
    | some u =>
      rcases F.gr a u e with z | z
      · exact absurd h1 z
      · exact absurd t (z _ h2)
  have keep : ∀ a o, H a = some o → nT o → H1 a = some o := fun a o h t => F.hh a o h t nofun
  refine A.trans ⟨⟨F.bb, fun a o h t _ _ => keep a o h t, fun a o h => ?_, fun a h => .inl h, fun a o h t => ⟨o, keep a o h t, t⟩⟩, ⟨F.ex, I.len, fun i sl h => (I.slot i sl h).mono F.bb keep fun ds a e h1 => ?_, I.dis, fun a h => ?_, F.tb⟩, .refl⟩
  · rcases F.gr a o h with z | z
    · exact .inl z
    · exact .inr (.inl z)
  · subst e
    obtain ⟨q1, vs, q2, _⟩ := I.ownB h h1
    exact nb a _ q1 q2 nT_lst
  · obtain ⟨q1, q2, q3⟩ := I.cu a h
    exact ⟨nb a _ q1 q2 nT_lst, keep a _ q2 nT_lst, q3⟩
theorem call_aftC {a : Addr} {cup : Cup} (hc0 : c.cup = some a) (A : Aft K c B0 H0 σ s0 B H s) (F : FAft (some a) B H B1 H1) (hc : CupIs (some a) B1 H1 cup) : Aft K c B0 H0 σ s0 B1 H1 { s with cup := cup } := by
  have I := A.si
  have nb : ∀ a o, B a = none → H a = some o → nT o → B1 a = none := fun a o h1 h2 t => by
    cases e : B1 a with
    | none => rfl
    | some u =>
      rcases F.gr a u e with z | z
      · exact absurd h1 z
      · exact absurd t (z _ h2)
  obtain ⟨c1, c2⟩ := hc a rfl
  obtain ⟨i1, i2, i3⟩ := I.cu a hc0
  refine A.trans ⟨⟨F.bb, fun b o h t _ k => F.hh b o h t (fun e => k (hc0.trans e)), fun b o h => ?_, fun b h => .inl h, fun b o h t => ?_⟩, ⟨F.ex, I.len, fun i sl h => ?_, I.dis, fun b h => ?_, F.tb⟩, .refl⟩
  · rcases F.gr b o h with z | z
    · exact .inl z
    · exact .inr (.inl z)
  · by_cases z : b = a
    · rw [z]; exact ⟨_, c2, nT_lst⟩
    · exact ⟨o, F.hh b o h t (fun e => z (Option.some.inj e).symm), t⟩
  · have z := I.slot i sl h
    cases sl with
    | no => trivial
    | val d => obtain ⟨v, h1, h2⟩ := z; exact ⟨v, h1, h2.mono F.bb⟩
    | own ds =>
      obtain ⟨b, vs, h1, h2, h3, h4⟩ := z
      have ne : some a ≠ some b := fun e => i3 (by cases e; exact ⟨i, ds, h, h1⟩)
      exact ⟨b, vs, h1, nb b _ h2 h3 nT_lst, F.hh b _ h3 nT_lst ne, h4.mono F.bb⟩
    | cup => exact z
    | xcp x => obtain ⟨a', cl, dd, q0, q1, q2⟩ := z; exact ⟨a', cl, dd, q0, q1, q2.mono F.bb⟩
  · obtain rfl : a = b := Option.some.inj (hc0.symm.trans h)
    exact ⟨c1, c2, i3⟩
theorem pcall_run {f : FD} {sa : SA} {Q : VK} {H : Hp} (h : trE K c E (sCall f sa) σ H Q) : trA K c E sa σ H fun vs H1 => spP K f vs H1 Q (E σ) := by
  obtain ⟨B, s, I, q⟩ := of_tr h
  refine trA_mono (bindAP (.refl I) q) fun vs H1 ⟨B1, s1, ds, A1, _, dq, q1⟩ => ?_
  refine ⟨B1, ds, A1.si.ex, dq, A1.si.tb, ?_⟩
  cases z : f (0, 0, 0) ds with
  | ok r k =>
    simp only [z] at q1
    exact fun v B' H' F d => q1 v B' H' (call_aft A1 F) d trivial
  | exc x k =>
    simp only [z] at q1
    exact fun cls dd B' H' F d => q1 cls dd B' H' (call_aft A1 F) d
  | bad => simp only [z] at q1; exact q1.elim
theorem ccall_run {i : Nat} {f : FD} {sa : SA} {Q : VK} {H : Hp} (h : trE K c E (sCallC i f sa) σ H Q) : tVar i σ H fun x H0 => trA K c E sa σ H0 fun vs H1 => spC K f (x :: vs) H1 Q (E σ) := by
  obtain ⟨B, s, I, q⟩ := of_tr h
  unfold sCallC at q
  cases e : s.env[i]? with
  | none => simp only [e] at q; exact q.elim
  | some sl =>
    cases sl with
    | cup =>
      simp only [e] at q
      obtain ⟨a, hc0, h2⟩ := I.slot i _ e
      refine ⟨.ref a, h2, trA_mono (bindAP (.refl I) q) fun vs H1 ⟨B1, s1, ds, A1, _, dq, q1⟩ => ?_⟩
      refine ⟨B1, a, vs, ds, s1.cup, rfl, A1.si.ex, fun b hb => ?_, dq, A1.si.tb, ?_⟩
      · obtain ⟨q1, q2, _⟩ := A1.si.cu b (hc0.trans hb)
        exact ⟨q1, q2⟩
      · cases z : f s1.cup ds with
        | ok r k =>
          simp only [z] at q1
          exact fun v B' H' F hc d => q1 v B' H' (call_aftC hc0 A1 F hc) d trivial
        | exc x k =>
          simp only [z] at q1
          exact fun cls dd B' H' F hc d => q1 cls dd B' H' (call_aftC hc0 A1 F hc) d
        | bad => simp only [z] at q1; exact q1.elim
    | no => simp only [e] at q; exact q.elim
    | xcp x => simp only [e] at q; exact q.elim
    | val d => simp only [e] at q; exact q.elim
    | own d => simp only [e] at q; exact q.elim
variable {CX : CXT} {k : Nat} {fa : Addr} {fd : FuncData} {ps : List Str} {f : FD} {x : Str} {p : Pos} {e : Expr} {es : List Expr} {sa : SA}
/-- f(..) -/
theorem je_call (F : FnG X.prog X.w X.K X.mg X.base CX k fa fd ps (spP X.K f)) (hr : Room k X.A) (hgd : X.A.guards = some []) (hm : X.mg x = some (.ref fa)) (hk : PySem.W.keepIn X.K (.ref fa) = true) (hb : Binds X.K fd ps []) (hx : ∀ σ, PassesAt CX X σ (E σ))
    (ha : JA X c E (e :: es) sa) (hg : Gl X x := by rfl) (hd : (x == ("__debug__" : Str)) = false := by decide) (he : starEach (e :: es) X.env = (false, eval e X.env) :: starEach es X.env := by rfl) (hpl : (backTo pos (starEach es X.env)).any (·.1) = false := by rfl) :
    JE X c E (.Call (.Name x p) (e :: es) [] pos) (sCall f sa) := pe_imp (peG_call F hr hgd hg hm hk hb hx ha hd he hpl) fun _ _ _ q => pcall_run q
/-- f(cup, ..) -/
theorem je_callC (i : Nat) {y : Str} {py : Pos} (F : FnG X.prog X.w X.K X.mg X.base CX k fa fd ps (spC X.K f)) (hr : Room k X.A) (hgd : X.A.guards = some []) (hm : X.mg x = some (.ref fa)) (hk : PySem.W.keepIn X.K (.ref fa) = true) (hb : Binds X.K fd ps []) (hx : ∀ σ, PassesAt CX X σ (E σ))
    (ha : JA X c E es sa) (hN : X.N[i]? = some y := by rfl) (hv : Vis X.env.scope y := by first | exact Or.inl rfl | exact Or.inr (Or.inl rfl) | exact Or.inr (Or.inr rfl)) (hg : Gl X x := by rfl) (hd : (x == ("__debug__" : Str)) = false := by decide) (hd2 : (y == ("__debug__" : Str)) = false := by decide) (hd3 : (y == ("__classdict__" : Str)) = false := by decide)
    (he : starEach (.Name y py :: es) X.env = (false, eval (.Name y py) X.env) :: starEach es X.env := by rfl) (hpl : (backTo pos (starEach es X.env)).any (·.1) = false := by rfl) :
    JE X c E (.Call (.Name x p) (.Name y py :: es) [] pos) (sCallC i f sa) := pe_imp (peG_call F hr hgd hg hm hk hb hx (pa_cons (pe_var hN hv hd2 hd3) ha he) hd he hpl) fun _ _ _ q => ccall_run q
end

/-! ### a def of the text keeps its promise -/
/-- what a body does, from the parameters' values -/
def defP (n ar : Nat) (ss : SS) : FD := fun _ ds => if ds.length = ar ∧ ar ≤ n then match ss ⟨ds.map .val ++ List.replicate (n - ar) .no, (0, 0, 0)⟩ with
  | .ok (.ret d) _ => .ok d (0, 0, 0)
  | .ok .next _ => .ok .non (0, 0, 0)
  | _ => .bad else .bad
def defC (n ar : Nat) (ss : SS) : FD := fun cup ds => if ds.length = ar ∧ ar + 1 ≤ n then match ss ⟨.cup :: (ds.map .val ++ List.replicate (n - 1 - ar) .no), cup⟩ with
  | .ok (.ret d) s => .ok d s.cup
  | .ok .next s => .ok .non s.cup
  | _ => .bad else .bad
section
variable {K : PySem.W.Frag} {B H B' H' : Hp} {c : Cc}
theorem start_slot {vs : List V} {ds : List D} {N : Nat} (dq : DqAll K B vs ds) (i : Nat) (sl : Sl) (h : (ds.map Sl.val ++ List.replicate N Sl.no)[i]? = some sl) (σ : L2.St) (j : Nat) (hσ : ∀ v, vs[i]? = some v → σ[j]? = some (some v)) : sl = .no ∨ ∃ d v, sl = .val d ∧ σ[j]? = some (some v) ∧ Dq K B v d := by
  by_cases hi : i < ds.length
  · rw [List.getElem?_append_left (by simpa using hi), List.getElem?_map] at h
    cases e : ds[i]? with
    | none => rw [e] at h; cases h
    | some d =>
      rw [e] at h
      cases h
      obtain ⟨v, h1, h2⟩ := dq.get e
      exact .inr ⟨d, v, rfl, hσ v h1, h2⟩
  · rw [List.getElem?_append_right (by simpa using hi), List.getElem?_replicate] at h
    split at h
    · cases h; exact .inl rfl
    · cases h
theorem nown_start {vs : List V} {l : List Sl} (h : ∀ (i : Nat) (sl : Sl), l[i]? = some sl → ∀ ds : List D, sl ≠ Sl.own ds) (σ : L2.St) (a : Addr) : ¬ Own l σ a := fun ⟨i, ds, h1, _⟩ => h i _ h1 ds rfl
theorem start_get {N : List Str} {vs : List V} {i : Nat} {v : V} (h : vs[i]? = some v) : (L2.start N vs)[i]? = some (some v) := by
  have hi := (List.getElem?_eq_some_iff.mp h).1
  unfold L2.start
  rw [List.getElem?_append_left (by simpa using hi), List.getElem?_map, h]
  rfl
theorem start_len {N : List Str} {vs : List V} (h : vs.length ≤ N.length) : (L2.start N vs).length = N.length := by
  unfold L2.start
  rw [List.length_append, List.length_map, List.length_replicate]
  omega
theorem no_own_P {ds : List D} {N : Nat} : ∀ (i : Nat) (sl : Sl), (ds.map Sl.val ++ List.replicate N Sl.no)[i]? = some sl → ∀ es, sl ≠ .own es := fun i sl h es e => by
  subst e
  have m := List.mem_of_getElem? h
  rcases List.mem_append.mp m with m | m
  · obtain ⟨d, _, q⟩ := List.mem_map.mp m
    cases q
  · have := List.eq_of_mem_replicate m
    cases this
theorem sim_P {N : List Str} {vs : List V} {ds : List D} (tb : TbOk B H) (e : Ex B H) (dq : DqAll K B vs ds) (hn : ds.length ≤ N.length) : Sim K cN B H (L2.start N vs) ⟨ds.map .val ++ List.replicate (N.length - ds.length) .no, (0, 0, 0)⟩ := by
  have hl := dq.length
  refine ⟨e, ?_, fun i sl h => ?_, fun i j xs ys a h1 => absurd rfl (no_own_P i _ h1 xs), fun a h => (nomatch h), tb⟩
  · rw [start_len (by omega)]
    simp
    omega
  · rcases start_slot dq i sl h (L2.start N vs) i (fun v hv => start_get hv) with rfl | ⟨d, v, rfl, h1, h2⟩
    · trivial
    · exact ⟨v, h1, h2⟩
theorem sim_C {N : List Str} {a : Addr} {vs : List V} {ds : List D} {cup : Cup} (tb : TbOk B H) (e : Ex B H) (dq : DqAll K B vs ds) (hc : CupIs (some a) B H cup) (hn : ds.length + 1 ≤ N.length) :
    Sim K (cC a) B H (L2.start N (.ref a :: vs)) ⟨.cup :: (ds.map .val ++ List.replicate (N.length - 1 - ds.length) .no), cup⟩ := by
  have hl := dq.length
  have no : ∀ (i : Nat) (sl : Sl), (Sl.cup :: (ds.map Sl.val ++ List.replicate (N.length - 1 - ds.length) Sl.no))[i]? = some sl → ∀ es, sl ≠ .own es := fun i sl h es => by
    cases i with
    | zero => simp at h; subst h; exact nofun
    | succ i => exact no_own_P i sl (by simpa using h) es
  refine ⟨e, ?_, fun i sl h => ?_, fun i j xs ys b h1 => absurd rfl (no i _ h1 xs), fun b h => ?_, tb⟩
  · rw [start_len (by simp; omega)]
    simp
    omega
  · cases i with
    | zero =>
      simp at h
      subst h
      exact ⟨a, rfl, start_get rfl⟩
    | succ i =>
      rcases start_slot dq i sl (by simpa using h) (L2.start N (.ref a :: vs)) (i + 1) (fun v hv => start_get (by simpa using hv)) with rfl | ⟨d, v, rfl, h1, h2⟩
      · trivial
      · exact ⟨v, h1, h2⟩
  · obtain ⟨h1, h2⟩ := hc b h
    exact ⟨h1, h2, nown_start (vs := vs) no _ b⟩
theorem faft_of {σ σ' : L2.St} {s s' : S} (A : AftS K c B H σ s B' H' σ' s') (no : ∀ a, ¬ Own s.env σ a) : FAft c.cup B H B' H' :=
  ⟨A.st.bb, A.si.ex, fun a o h t k => A.st.hh a o h t (no a) k, fun a o h => (A.st.gr a o h).elim .inl fun z => z.elim .inr fun z => absurd z (no a), A.si.tb⟩
end
section
variable {P : Program} {w : World} {K : PySem.W.Frag} {mg : Str → Option Value} {base : Heap} {k : Nat} {f : Addr} {fd : FuncData} {ps N : List Str} {x qual : Str} {st : Stmt}
theorem len_all {f : FD} {ar : Nat} (hf : ∀ cup ds, ds.length ≠ ar → f cup ds = .bad) (vs : List V) (H : Hp) (Q : VK) (E : XK) (h : spP K f vs H Q E) : vs.length = ar := by
  obtain ⟨B, ds, e, dq, _, h⟩ := h
  rw [dq.length]
  by_cases z : ds.length = ar
  · exact z
  · rw [hf _ _ z] at h
    exact h.elim
theorem len_allC {f : FD} {ar : Nat} (hf : ∀ cup ds, ds.length ≠ ar → f cup ds = .bad) (vs : List V) (H : Hp) (Q : VK) (E : XK) (h : spC K f vs H Q E) : vs.length = ar + 1 := by
  obtain ⟨B, a, us, ds, cup, rfl, e, _, dq, _, h⟩ := h
  rw [List.length_cons, dq.length]
  by_cases z : ds.length = ar
  · rw [z]
  · rw [hf _ _ z] at h
    exact h.elim
theorem defP_ar {n ar : Nat} {ss : SS} (cup : Cup) (ds : List D) (h : ds.length ≠ ar) : defP n ar ss cup ds = .bad := by
  unfold defP
  rw [if_neg (fun z => h z.1)]
theorem defC_ar {n ar : Nat} {ss : SS} (cup : Cup) (ds : List D) (h : ds.length ≠ ar) : defC n ar ss cup ds = .bad := by
  unfold defC
  rw [if_neg (fun z => h z.1)]
/-- a def without a cup that lets no exception out -/
theorem fnP {ss : SS} (F : Fun K x qual st f fd) (S : FnScope N ps (defScope st))
    (hbody : ∀ (cdv : Value) (A : Around) (outer : List Env) (s : Shared) (H : Hp) (E : XK), Room k (A.deeper (envOfC qual (defScope st) s.heap.objs.size f cdv)) → A.guards = some [] →
      JSs (cxOf CX0 P w K mg base N qual (defScope st) f cdv A outer s H E).nox cN EN (defBody st) ss) : FnG P w K mg base CX0 (k + 1) f fd ps (spP K (defP N.length ps.length ss)) := by
  refine fnG_mk F S (len_all defP_ar) fun cdv A outer s H vs Q E hr hg h => ⟨_, (hbody cdv A outer s H E hr hg).nox, ?_⟩
  obtain ⟨B, ds, e, dq, tb, h⟩ := h
  unfold defP at h
  by_cases z : ds.length = ps.length ∧ ps.length ≤ N.length
  · rw [if_pos z] at h
    have I : Sim K cN B H (L2.start N vs) ⟨ds.map .val ++ List.replicate (N.length - ds.length) .no, (0, 0, 0)⟩ := sim_P tb e dq (by omega)
    rw [z.1] at I
    refine ⟨B, _, I, ?_⟩
    cases q : ss ⟨ds.map .val ++ List.replicate (N.length - ps.length) .no, (0, 0, 0)⟩ with
    | ok o s' =>
      rw [q] at h
      have no : ∀ a, ¬ Own (ds.map Sl.val ++ List.replicate (N.length - ps.length) Sl.no) (L2.start N vs) a := nown_start (vs := vs) no_own_P _
      cases o with
      | next => exact fun B' H' σ' A => h .non B' H' (faft_of A no) .non
      | ret d => exact fun v B' H' σ' A dq => h v B' H' (faft_of A no) dq
      | brk => exact h.elim
      | cont => exact h.elim
    | exc y s' => rw [q] at h; exact h.elim
    | bad => rw [q] at h; exact h.elim
  · rw [if_neg z] at h
    exact h.elim
theorem fnCL {ss : SS} (F : Fun K x qual st f fd) (S : FnScope N ps (defScope st)) (hp : 1 ≤ ps.length)
    (hbody : ∀ (c : Addr) (cdv : Value), fd.code = cdv → ∀ (A : Around) (outer : List Env) (s : Shared) (H : Hp) (E : XK), Room k (A.deeper (envOfC qual (defScope st) s.heap.objs.size f cdv)) → A.guards = some [] →
      JSs (cxOf CX0 P w K mg base N qual (defScope st) f cdv A outer s H E).nox (cC c) EN (defBody st) ss) : FnG P w K mg base CX0 (k + 1) f fd ps (spC K (defC N.length (ps.length - 1) ss)) := by
  refine fnG_mkL F S (fun vs H Q E h => by rw [len_allC defC_ar vs H Q E h]; omega) fun cdv ec A outer s H vs Q E hr hg h => ?_
  obtain ⟨B, a, us, ds, cup, rfl, e, hc, dq, tb, h⟩ := h
  refine ⟨_, (hbody a cdv ec A outer s H E hr hg).nox, ?_⟩
  unfold defC at h
  by_cases z : ds.length = ps.length - 1 ∧ ps.length - 1 + 1 ≤ N.length
  · rw [if_pos z] at h
    have I := sim_C (N := N) tb e dq hc (by omega)
    rw [z.1] at I
    refine ⟨B, _, I, ?_⟩
    have no : ∀ b, ¬ Own (Sl.cup :: (ds.map Sl.val ++ List.replicate (N.length - 1 - (ps.length - 1)) Sl.no)) (L2.start N (.ref a :: us)) b := nown_start (vs := us) (fun i sl h es => by
      cases i with
      | zero => simp at h; subst h; exact nofun
      | succ i => exact no_own_P i sl (by simpa using h) es) _
    cases q : ss ⟨.cup :: (ds.map .val ++ List.replicate (N.length - 1 - (ps.length - 1)) .no), cup⟩ with
    | ok o s' =>
      rw [q] at h
      have cu : ∀ {B' H' : Hp} {σ' : L2.St}, AftS K (cC a) B H (L2.start N (.ref a :: us)) ⟨.cup :: (ds.map .val ++ List.replicate (N.length - 1 - (ps.length - 1)) .no), cup⟩ B' H' σ' s' → CupIs (some a) B' H' s'.cup := fun A b hb => by
        obtain ⟨q1, q2, _⟩ := A.si.cu b hb
        exact ⟨q1, q2⟩
      cases o with
      | next => exact fun B' H' σ' A => h .non B' H' (faft_of A no) (cu A) .non
      | ret d => exact fun v B' H' σ' A dq => h v B' H' (faft_of A no) (cu A) dq
      | brk => exact h.elim
      | cont => exact h.elim
    | exc y s' => rw [q] at h; exact h.elim
    | bad => rw [q] at h; exact h.elim
  · rw [if_neg z] at h
    exact h.elim
theorem fnC {ss : SS} (F : Fun K x qual st f fd) (S : FnScope N ps (defScope st)) (hp : 1 ≤ ps.length)
    (hbody : ∀ (c : Addr) (cdv : Value) (A : Around) (outer : List Env) (s : Shared) (H : Hp) (E : XK), Room k (A.deeper (envOfC qual (defScope st) s.heap.objs.size f cdv)) → A.guards = some [] →
      JSs (cxOf CX0 P w K mg base N qual (defScope st) f cdv A outer s H E).nox (cC c) EN (defBody st) ss) : FnG P w K mg base CX0 (k + 1) f fd ps (spC K (defC N.length (ps.length - 1) ss)) := fnCL F S hp fun c cdv _ => hbody c cdv
end
end Eng

namespace Eng
open PySem PySem.Spec PyProof.Rows L2 Evl
variable [Tb]

/-! ### what is walked -/
abbrev SI := S → Res (List D)
/-- an iterator over the data ds, as long as what B holds stands -/
def WalkOk (K : PySem.W.Frag) (J : It) (B : Hp) (ds : List D) : Prop := ∃ (G : Hp → Prop) (Y : Nat → Hp → V → Hp → Prop), Walk J ds.length G Y ∧ (∀ H1, Ex B H1 → G H1) ∧
  ∀ (i : Nat) (d : D) (B1 H1 : Hp) (x : V) (H2 : Hp), ds[i]? = some d → Ex B B1 → Ex B1 H1 → Y i H1 x H2 → ∃ B2, Made K B1 H1 B2 H2 x (.dat d)
section
variable (K : PySem.W.Frag) (c : Cc) (E : XS) (B0 H0 : Hp) (σ : L2.St) (s0 : S)
def PostI (r : Res (List D)) (R : It → Hp → Prop) : Prop := match r with
  | .ok ds s' => ∀ J B' H', Aft K c B0 H0 σ s0 B' H' s' → WalkOk K J B' ds → R J H'
  | .exc x s' => XPost K c E B0 H0 σ s0 x s'
  | .bad => False
end
def trI (K : PySem.W.Frag) (c : Cc) (E : XS) (si : SI) : TI := fun σ H R => ∃ B s, Sim K c B H σ s ∧ PostI K c E B H σ s (si s) R
abbrev JI (X : Cx) (c : Cc) (E : XS) (tg e : Expr) (si : SI) : Prop := PI X tg e (trI X.K c E si)
theorem pi_imp {X : Cx} {tg e : Expr} {t t' : TI} (h : PI X tg e t) (i : ∀ σ H R, t' σ H R → t σ H R) : PI X tg e t' := ⟨fun pins s σ H R I q => h.run pins s σ H R I (i σ H R q)⟩
/-- a list or a tuple -/
def iSq (K : PySem.W.Frag) (te : TE) : TI := fun σ H R => te σ H fun x H1 => ∃ a, x = .ref a ∧ ((∃ xs, SqL K H1 a xs ∧ R (Itl K a) H1) ∨ (∃ xs, SqT K H1 a xs ∧ R (Itt K a) H1))
section
variable {X : Cx} {c : Cc} {E : XS} {pos : Pos} {tg : Expr}
theorem val_pe {pins : List (Addr × Obj)} {σ : L2.St} {H : Hp} {s : Shared} {e : Expr} {te : TE} {R : V → Hp → Prop} (h : PE X e te) (I : Inv X pins σ H s) (q : te σ H R) : wpAny (model X.prog X.w) X.A (eval e X.env) (fun u s' => ∃ v H', Inv X pins σ H' s' ∧ RelV v u ∧ R v H') X.xe s := h.run pins s σ H R I q
/-- the walk of a list that stands at a, of a tuple -/
theorem it_list {pins : List (Addr × Obj)} {σ : L2.St} {H : Hp} {s : Shared} {a : Addr} {xs : List V} {R : It → Hp → Prop} (I : Inv X pins σ H s) (hq : SqL X.K H a xs) (q : R (Itl X.K a) H) : wpAny (model X.prog X.w) X.A (pyIter (.ref a)) (PIE X pins σ tg R) X.xe s := by
  obtain ⟨its, rv, p, hz⟩ := I.list hq
  have n := s.heap.objs.size
  refine wpAny_pyIter_list p.isList ⟨_, [_], _, _, H, rfl, I.kept (t' := s.toks) fun b o e => Heap.get?_push_of_some _ e, turn_list a s.heap.objs.size, ⟨_, Heap.get?_push_size _ rfl, rfl, rfl⟩, ?_, q⟩
  intro b hb
  obtain rfl : b = s.heap.objs.size := by simpa using hb
  exact I.fpOk (Nat.le_refl _) (I.hok.fresh (Nat.le_refl _))
theorem it_tup {pins : List (Addr × Obj)} {σ : L2.St} {H : Hp} {s : Shared} {a : Addr} {xs : List V} {R : It → Hp → Prop} (I : Inv X pins σ H s) (hq : SqT X.K H a xs) (q : R (Itt X.K a) H) : wpAny (model X.prog X.w) X.A (pyIter (.ref a)) (PIE X pins σ tg R) X.xe s := by
  obtain ⟨its, rv, p, hz⟩ := I.tuple hq
  refine wpAny_pyIter_tuple (show s.heap.IsTuple a its.toArray from p) ⟨_, [_], _, _, H, rfl, I.kept (t' := s.toks) fun b o e => Heap.get?_push_of_some _ e, turn_tuple a s.heap.objs.size, ⟨_, Heap.get?_push_size _ rfl, rfl, rfl⟩, ?_, q⟩
  intro b hb
  obtain rfl : b = s.heap.objs.size := by simpa using hb
  exact I.fpOk (Nat.le_refl _) (I.hok.fresh (Nat.le_refl _))
theorem pi_sq {e : Expr} {te : TE} (h : PE X e te) : PI X tg e (iSq X.K te) := by
  constructor
  intro pins s σ H R I q
  refine thn (val_pe h I q) fun v s1 ⟨x, H1, I1, r1, a, ex, q1⟩ => ?_
  subst ex
  cases r1
  rcases q1 with ⟨xs, h1, q⟩ | ⟨xs, h1, q⟩
  · exact it_list I1 h1 q
  · exact it_tup I1 h1 q
def dataOf : D → Option (List D)
  | .lst ds => some ds
  | .tup ds => some ds
  | _ => none
/-- the items of a list or tuple -/
def siSeq (se : SE) : SI := fun s => (se s).bind fun w s1 => (frz w s1).bind fun d s2 => match dataOf d with
  | some ds => .ok ds s2
  | none => .bad
theorem walk_lst {K : PySem.W.Frag} {B : Hp} {a : Addr} {xs : List V} {ds : List D} (h : B a = some (.lst xs)) (dq : DqAll K B xs ds) : WalkOk K (Itl K a) B ds := by
  refine ⟨_, _, by rw [← dq.length]; exact walk_list (xs := xs), fun H1 e => SqL.of (e _ _ h), fun i d B1 H1 x H2 hd e1 e2 y => ?_⟩
  obtain ⟨rfl, hx⟩ := y
  obtain ⟨v, h1, h2⟩ := dq.get hd
  rw [hx] at h1
  cases h1
  exact ⟨B1, .old (h2.mono e1)⟩
theorem walk_tpl {K : PySem.W.Frag} {B : Hp} {a : Addr} {xs : List V} {ds : List D} (h : SqT K B a xs) (dq : DqAll K B xs ds) : WalkOk K (Itt K a) B ds := by
  refine ⟨_, _, by rw [← dq.length]; exact walk_tup (xs := xs), fun H1 e => ex_t e h, fun i d B1 H1 x H2 hd e1 e2 y => ?_⟩
  obtain ⟨rfl, hx⟩ := y
  obtain ⟨v, h1, h2⟩ := dq.get hd
  rw [hx] at h1
  cases h1
  exact ⟨B1, .old (h2.mono e1)⟩
theorem ji_seq {e : Expr} {se : SE} (h : JE X c E e se) : JI X c E tg e (siSeq se) := pi_imp (pi_sq h) fun σ H R ⟨B, s, I, q⟩ => by
  refine trE_mono (bindE (P := fun r => PostI X.K c E B H σ s r R) (.refl I) q (fun _ _ z => z) id) fun x H1 ⟨B1, s1, w, A1, _, V1, N1, q1⟩ => ?_
  cases z : frz w s1 with
  | ok d s2 =>
    rw [z] at q1
    obtain ⟨B2, A2, dq⟩ := frz_ok A1 V1 N1 z
    cases d with
    | lst ds =>
      cases dq with
      | lst h1 h2 => exact ⟨_, rfl, .inl ⟨_, SqL.of (A2.si.ex _ _ h1), q1 _ B2 H1 A2 (walk_lst h1 h2)⟩⟩
    | tup ds =>
      cases dq with
      | tup h1 h2 => exact ⟨_, rfl, .inr ⟨_, ex_t A2.si.ex h1, q1 _ B2 H1 A2 (walk_tpl h1 h2)⟩⟩
    | _ => exact q1.elim
  | exc y s2 => exact absurd z frz_exc
  | bad => rw [z] at q1; exact q1.elim
/-- range(n), range(a, b), range(a, b, c) -/
def rgD (lo : Int) (n : Nat) : List D := (List.range n).map fun (i : Nat) => D.int (lo + i)
def siRange1 (sa : SA) : SI := fun s => (sa s).bind fun ds s1 => match ds with
  | [.int j] => if -(2 ^ 62) ≤ j ∧ j < 2 ^ 62 then .ok (rgD 0 j.toNat) s1 else .bad
  | _ => .bad
def siRange2 (sa : SA) : SI := fun s => (sa s).bind fun ds s1 => match ds with
  | [.int i, .int j] => if -(2 ^ 62) ≤ i ∧ i < 2 ^ 62 ∧ -(2 ^ 62) ≤ j ∧ j < 2 ^ 62 then .ok (rgD i (j - i).toNat) s1 else .bad
  | _ => .bad
/-- downward by one -/
def siRange3 (sa : SA) : SI := fun s => (sa s).bind fun ds s1 => match ds with
  | [.int i, .int j, .int c] => if -(2 ^ 62) ≤ i ∧ i < 2 ^ 62 ∧ -(2 ^ 62) ≤ j ∧ j < 2 ^ 62 ∧ c = -1 then .ok ((List.range (i - j).toNat).map fun (k : Nat) => D.int (i - k)) s1 else .bad
  | _ => .bad
theorem walk_rg {K : PySem.W.Frag} {B : Hp} {lo : Int} {n : Nat} : WalkOk K (Itr lo n) B (rgD lo n) := by
  refine ⟨_, _, by unfold rgD; rw [List.length_map, List.length_range]; exact walk_range, fun _ _ => trivial, fun i d B1 H1 x H2 hd e1 e2 y => ?_⟩
  obtain ⟨rfl, rfl⟩ := y
  unfold rgD at hd
  rw [List.getElem?_map] at hd
  cases z : (List.range n)[i]? with
  | none => rw [z] at hd; cases hd
  | some j =>
    rw [z] at hd
    cases hd
    have : j = i := by
      rw [List.getElem?_range] at z
      · exact (Option.some.inj z).symm
      · have := (List.getElem?_eq_some_iff.mp z).1
        simpa using this
    subst this
    exact ⟨B1, .old (.int _)⟩
theorem walk_dn {K : PySem.W.Frag} {B : Hp} {lo : Int} {n : Nat} : WalkOk K (Itc lo (-1) n) B ((List.range n).map fun (k : Nat) => D.int (lo - k)) := by
  refine ⟨_, _, by rw [List.length_map, List.length_range]; exact walk_rangeC, fun _ _ => trivial, fun i d B1 H1 x H2 hd e1 e2 y => ?_⟩
  obtain ⟨rfl, rfl⟩ := y
  rw [List.getElem?_map] at hd
  cases z : (List.range n)[i]? with
  | none => rw [z] at hd; cases hd
  | some j =>
    rw [z] at hd
    cases hd
    have : j = i := by
      rw [List.getElem?_range] at z
      · exact (Option.some.inj z).symm
      · have := (List.getElem?_eq_some_iff.mp z).1
        simpa using this
    subst this
    have e : lo + (j : Int) * (-1) = lo - j := by omega
    show ∃ B2, Made K B1 H2 B2 H2 (.int (lo + (j : Int) * (-1))) (.dat (.int (lo - j)))
    rw [e]
    exact ⟨B1, .old (.int _)⟩
theorem ji_range1 {a : Expr} {sa : SA} {p : Pos} (hm : X.mg "range" = none) (ha : JA X c E [a] sa) (hg : Gl X "range" := by rfl) (hs : starEach [a] X.env = [(false, eval a X.env)] := by rfl) : JI X c E tg (.Call (.Name "range" p) [a] [] pos) (siRange1 sa) :=
  pi_imp (pi_range1 hg hm ha hs) fun σ H R ⟨B, s, I, q⟩ => by
    refine trA_mono (bindA (P := fun r => PostI X.K c E B H σ s r R) (.refl I) q (fun _ _ z => z) id) fun vs H1 ⟨B1, s1, ds, A1, _, dq, q1⟩ => ?_
    split at q1
    · rename_i j
      split at q1
      · rename_i z
        cases dq with
        | cons h1 h2 =>
          cases h2
          cases h1
          exact ⟨j, rfl, z.1, z.2, q1 _ B1 H1 A1 walk_rg⟩
      · exact q1.elim
    · exact q1.elim
theorem ji_range2 {a b : Expr} {sa : SA} {p : Pos} (hm : X.mg "range" = none) (ha : JA X c E [a, b] sa) (hg : Gl X "range" := by rfl) (hs : starEach [a, b] X.env = [(false, eval a X.env), (false, eval b X.env)] := by rfl) (hs2 : starEach [b] X.env = [(false, eval b X.env)] := by rfl) :
    JI X c E tg (.Call (.Name "range" p) [a, b] [] pos) (siRange2 sa) :=
  pi_imp (pi_range2 hg hm ha hs hs2) fun σ H R ⟨B, s, I, q⟩ => by
    refine trA_mono (bindA (P := fun r => PostI X.K c E B H σ s r R) (.refl I) q (fun _ _ z => z) id) fun vs H1 ⟨B1, s1, ds, A1, _, dq, q1⟩ => ?_
    split at q1
    · rename_i i j
      split at q1
      · rename_i z
        cases dq with
        | cons h1 h2 =>
          cases h2 with
          | cons h2 h3 =>
            cases h3
            cases h1
            cases h2
            exact ⟨i, j, rfl, z, q1 _ B1 H1 A1 walk_rg⟩
      · exact q1.elim
    · exact q1.elim
end

/-! ### targets -/
abbrev SG := D → S → Option S
def trG (K : PySem.W.Frag) (c : Cc) (sg : SG) : TG := fun v σ H Q => ∃ B s d, Sim K c B H σ s ∧ Dq K B v d ∧ ∃ s', sg d s = some s' ∧ ∀ B' H' σ', AftS K c B H σ s B' H' σ' s' → Q σ' H'
abbrev JG (X : Cx) (c : Cc) (tg : Expr) (sg : SG) : Prop := PG X tg (trG X.K c sg)
theorem pg_imp {X : Cx} {e : Expr} {t t' : TG} (h : PG X e t) (i : ∀ v σ H Q, t' v σ H Q → t v σ H Q) : PG X e t' := ⟨fun pins s σ H v u Q I r q => h.run pins s σ H v u Q I r (i v σ H Q q)⟩
def sgName (i : Nat) : SG := fun d s => some (setSl s i (.val d))
/-- a, b -/
def sgTwo (i j : Nat) : SG := fun d s => match d with
  | .tup [x, y] => some (setSl (setSl s i (.val x)) j (.val y))
  | _ => none
section
variable {X : Cx} {c : Cc} {E : XS} {pos : Pos}
theorem jg_name {i : Nat} {x : Str} (hN : X.N.Nodup) (hi : X.N[i]? = some x := by rfl) (hx : Loc X.env.scope x := by first | exact Or.inl rfl | exact Or.inr rfl) (hf : X.fn x = true ∨ X.env.scope.names.lookup x = some .local := by first | exact .inl rfl | exact .inr rfl | assumption) : JG X c (.Name x pos) (sgName i) :=
  pg_imp (pg_name hN hi hx hf) fun v σ H Q ⟨B, s, d, I, dq, s', e, q⟩ => by
    cases e
    exact q B H _ (set_val I dq)
theorem jg_two {i j : Nat} {e1 e2 : Expr} {k : Nat} (h1 : PG X e1 (gName i)) (h2 : PG X e2 (gName j)) (hc : X.calm = true := by rfl) (ha : (assignEach [e1, e2] X.env).map (·.2) = assign e1 X.env :: (assignEach [e2] X.env).map (·.2) := by rfl) (hb : (assignEach [e2] X.env).map (·.2) = assign e2 X.env :: (assignEach [] X.env).map (·.2) := by rfl)
    (hn : (assignEach [e1, e2] X.env).length = 2 := by rfl) (hst : (assignEach [e1, e2] X.env).findIdx? (·.1) = none := by rfl) : JG X c (.Tuple [e1, e2] k pos) (sgTwo i j) :=
  pg_imp (pg_tup hc (pgs_cons h1 (pgs_cons h2 pgs_nil hb) ha) hn hst) fun v σ H Q ⟨B, s, d, I, dq, s', e, q⟩ => by
    unfold sgTwo at e
    split at e
    · rename_i x y
      cases e
      cases dq with
      | tup ht da =>
        cases da with
        | cons d1 da =>
          cases da with
          | cons d2 da =>
            cases da
            have A1 := set_val (i := i) I d1
            have A2 := set_val (i := j) A1.si d2
            exact ⟨_, _, rfl, ex_t I.ex ht, rfl, _, _, rfl, _, _, rfl, rfl, q B H _ (A1.trans A2)⟩
    · cases e
end

/-! ### for -/
/-- the turns -/
def forL (sg : SG) (sb : SS) : List D → S → Res Out
  | [], s => .ok .next s
  | d :: ds, s => match sg d s with
    | some s1 => (sb s1).bind fun o s2 => match o with
      | .next => forL sg sb ds s2
      | .cont => forL sg sb ds s2
      | .brk => .ok .next s2
      | .ret r => .ok (.ret r) s2
    | none => .bad
def sFor (si : SI) (sg : SG) (sb : SS) : SS := fun s => (si s).bind fun ds s1 => forL sg sb ds s1
section
variable {X : Cx} {c : Cc} {E : XS} {pos : Pos}
theorem for_run {K : PySem.W.Frag} {si : SI} {sg : SG} {sb : SS} {D : Ends} {σ : L2.St} {H : Hp} (h : trS K c E (sFor si sg sb) D σ H) : tFor (trI K c E si) (trG K c sg) (trS K c E sb) D σ H := by
  obtain ⟨B, s, I, q⟩ := h
  refine ⟨B, s, I, ?_⟩
  unfold sFor at q
  cases e : si s with
  | exc x s1 =>
    rw [e] at q
    exact fun cls dd B' H' A => q cls dd B' H' σ A.toS
  | bad => rw [e] at q; exact q
  | ok ds s1 =>
    rw [e] at q
    intro J B1 H1 A1 W
    obtain ⟨G, Y, wk, hG, hY⟩ := W
    have q1 : PostS K c E B H σ s (forL sg sb ds s1) D := q
    refine for_it wk (fun i σ2 H2 => ∃ B2 s2, AftS K c B H σ s B2 H2 σ2 s2 ∧ Ex B1 B2 ∧ PostS K c E B H σ s (forL sg sb (ds.drop i) s2) D) ⟨B1, s1, A1.toS, Ex.refl _, q1⟩ (fun i σ2 H2 _ ⟨B2, s2, A2, e2, _⟩ => hG H2 (e2.trans A2.si.ex)) ?_ ?_
    · rintro i x σ2 H2 H3 hi ⟨B2, s2, A2, e2, q2⟩ y
      have hd : ds[i]? = some ds[i] := List.getElem?_eq_getElem hi
      rw [List.drop_eq_getElem_cons hi] at q2
      obtain ⟨B3, m⟩ := hY i _ B2 H2 x H3 hd e2 A2.si.ex y
      obtain ⟨A3, V3, _⟩ := m.aft (.refl A2.si)
      simp only [forL] at q2
      cases z : sg ds[i] s2 with
      | none => simp only [z] at q2; exact q2.elim
      | some s4 =>
        simp only [z] at q2
        refine ⟨B3, s2, _, A3.si, V3, s4, z, fun B4 H4 σ4 A4 => ?_⟩
        have A5 := (A2.trans A3.toS).trans A4
        refine ⟨B4, s4, A4.si, ?_⟩
        cases z2 : sb s4 with
        | exc x s5 => rw [z2] at q2; exact fun cls dd B' H' σ' A => q2 cls dd B' H' σ' (A5.trans A)
        | bad => rw [z2] at q2; exact q2
        | ok o s5 =>
          rw [z2] at q2
          have nx : (∀ B' H' σ', AftS K c B4 H4 σ4 s4 B' H' σ' s5 → ∃ B2 s2, AftS K c B H σ s B2 H' σ' s2 ∧ Ex B1 B2 ∧ PostS K c E B H σ s (forL sg sb (ds.drop (i + 1)) s2) D) ∨ ¬ (o = .next ∨ o = .cont) := by
            by_cases ho : o = .next ∨ o = .cont
            · left
              intro B' H' σ' A
              refine ⟨B', s5, A5.trans A, ((e2.trans A3.st.bb).trans A4.st.bb).trans A.st.bb, ?_⟩
              rcases ho with rfl | rfl <;> exact q2
            · exact .inr ho
          cases o with
          | next => exact nx.elim id fun z => absurd (.inl rfl) z
          | cont => exact nx.elim id fun z => absurd (.inr rfl) z
          | brk => exact fun B' H' σ' A => q2 B' H' σ' (A5.trans A)
          | ret r => exact fun v B' H' σ' A => q2 v B' H' σ' (A5.trans A)
    · rintro σ2 H2 ⟨B2, s2, A2, e2, q2⟩
      rw [List.drop_length] at q2
      exact q2 B2 H2 σ2 A2
theorem js_for {tg iter : Expr} {body : List Stmt} {si : SI} {sg : SG} {sb : SS} (hp : PassesOwn (model X.prog X.w) X.A X.env X.xe) (hi : JI X c E tg iter si) (hg : JG X c tg sg) (hb : JSs X c E body sb) (hc : X.calm = true := by rfl) (hs : ∀ x, foldedSetIterable iter X.env x = pure x := by intro _; rfl) :
    JS X c E (.For tg iter body [] pos) (sFor si sg sb) := ps_imp (ps_for hp hc hi hg hb hs) fun _ _ _ q => for_run q

/-! ### while -/
def whileL (t : SB) (sb : SS) : Nat → S → Res Out
  | 0, _ => .bad
  | n + 1, s => (t s).bind fun k s1 => match k with
    | false => .ok .next s1
    | true => (sb s1).bind fun o s2 => match o with
      | .next => whileL t sb n s2
      | .cont => whileL t sb n s2
      | .brk => .ok .next s2
      | .ret r => .ok (.ret r) s2
theorem while_run {K : PySem.W.Frag} {t : SB} {sb : SS} {n : Nat} {D : Ends} {σ : L2.St} {H : Hp} (h : trS K c E (whileL t sb n) D σ H) : tWhile (trT K c E t) (trS K c E sb) D σ H := by
  refine ⟨fun m σ2 H2 => trS K c E (whileL t sb m) D σ2 H2, ⟨n, h⟩, ?_⟩
  rintro m σ2 H2 ⟨B2, s2, I2, q2⟩
  cases m with
  | zero => exact q2.elim
  | succ m =>
    simp only [whileL] at q2
    refine trT_mono (bindTS I2 q2) fun k H3 ⟨B3, s3, A3, q3⟩ => ?_
    cases k with
    | false => exact iteF (q3 B3 H3 σ2 A3.toS)
    | true =>
      refine iteT ⟨fun σ4 H4 => trS K c E (whileL t sb m) D σ4 H4, fun σ4 H4 w => ⟨m, Nat.lt_succ_self m, w⟩, B3, s3, A3.si, ?_⟩
      have q4 := aft_postS A3.toS q3
      cases z : sb s3 with
      | exc x s' => rw [z] at q4; exact q4
      | bad => rw [z] at q4; exact q4
      | ok o s' =>
        rw [z] at q4
        cases o with
        | next => exact fun B' H' σ' A => ⟨B', s', A.si, aft_postS A q4⟩
        | cont => exact fun B' H' σ' A => ⟨B', s', A.si, aft_postS A q4⟩
        | brk => exact q4
        | ret r => exact q4
theorem js_while (n : Nat) {e : Expr} {body : List Stmt} {t : SB} {sb : SS} (hp : PassesOwn (model X.prog X.w) X.A X.env X.xe) (ht : JT X c E e t) (hb : JSs X c E body sb) : JS X c E (.While e body [] pos) (whileL t sb n) := ps_imp (ps_while hp ht hb) fun _ _ _ q => while_run q
end

/-! ### lists of one's own, changed -/
section
variable {K : PySem.W.Frag} {c : Cc} {B H B0 H0 : Hp} {σ : L2.St} {s s0 : S}
theorem own_upd (I : Sim K c B H σ s) {i : Nat} {ds es : List D} {a : Addr} {vs : List V} (hi : s.env[i]? = some (Sl.own ds)) (h1 : σ[i]? = some (some (V.ref a))) (q : DqAll K B vs es) : Aft K c B H σ s B (upd H a (.lst vs)) (setSl s i (.own es)) := by
  have hlen : i < s.env.length := (List.getElem?_eq_some_iff.mp hi).1
  have own : Own s.env σ a := ⟨i, ds, hi, h1⟩
  obtain ⟨bn, us, hu, _⟩ := I.ownB hi h1
  have ow : ∀ b, Own (s.env.set i (.own es)) σ b → Own s.env σ b := fun b ⟨j, xs, z1, z2⟩ => by
    rcases set_get z1 with ⟨rfl, e⟩ | ⟨n, e⟩
    · rw [h1] at z2
      cases z2
      exact own
    · exact ⟨j, xs, e, z2⟩
  have neB : ∀ b o, B b = some o → b ≠ a := fun b o h z => by
    rw [z, bn] at h
    cases h
  refine ⟨⟨Ex.refl B, fun b o h t n _ => ?_, fun b o h => .inl (by rw [h]; simp), fun b h => .inl (ow b h), fun b o h t => ?_⟩, ⟨fun b o h => ?_, by simpa [setSl] using I.len, fun j sl hj => ?_, fun j k xs ys b hj hk z1 z2 => ?_, fun b hb => ?_, I.tb.put (.lst hu)⟩, fun j sl hj v => ?_⟩
  · rw [upd_ne (fun z => n (by rw [z]; exact own))]
    exact h
  · by_cases z : b = a
    · exact ⟨_, by rw [z, upd_same], nT_lst⟩
    · exact ⟨o, by rw [upd_ne z]; exact h, t⟩
  · rw [upd_ne (neB b o h)]
    exact I.ex b o h
  · rcases set_get hj with ⟨rfl, e⟩ | ⟨n, e⟩
    · subst e
      exact ⟨a, vs, h1, bn, upd_same, q⟩
    · have z := I.slot j sl e
      cases sl with
      | no => trivial
      | val d => exact z
      | own xs =>
        obtain ⟨b, ws, q1, q2, q3, q4⟩ := z
        have nb : b ≠ a := fun z => n (I.dis j i xs ds a e hi (by rw [← z]; exact q1) h1)
        exact ⟨b, ws, q1, q2, by rw [upd_ne nb]; exact q3, q4⟩
      | cup => exact z
      | xcp x => exact z
  · rcases set_get hj with ⟨rfl, e⟩ | ⟨n, e⟩
    · rcases set_get hk with ⟨rfl, e'⟩ | ⟨n', e'⟩
      · rfl
      · exact I.dis j k ds ys b hi e' z1 z2
    · rcases set_get hk with ⟨rfl, e'⟩ | ⟨n', e'⟩
      · exact I.dis j k xs ds b e hi z1 z2
      · exact I.dis j k xs ys b e e' z1 z2
  · obtain ⟨q1, q2, q3⟩ := I.cu b hb
    have nb : b ≠ a := fun z => q3 (by rw [z]; exact own)
    exact ⟨q1, by rw [upd_ne nb]; exact q2, fun z => q3 (ow b z)⟩
  · by_cases z : i = j
    · subst z
      exact ⟨.own es, by simp only [setSl]; rw [List.getElem?_set_self hlen], rfl⟩
    · exact ⟨sl, by simp only [setSl]; rw [List.getElem?_set_ne z]; exact hj, v⟩
end
/-- x.append(e), x.insert(i, e) .. : the list of slot i, changed by what the arguments are; the value that comes -/
def sMut (i : Nat) (f : List D → List D → Option (D × List D)) (sa : SA) : SE := fun s => match s.env[i]? with
  | some (.own _) => (sa s).bind fun as s2 => match s2.env[i]? with
    | some (.own ds) => (match f ds as with
      | some (r, es) => .ok (.dat r) (setSl s2 i (.own es))
      | none => .bad)
    | _ => .bad
  | _ => .bad
/-- what a method's rule says of it -/
def RMut (K : PySem.W.Frag) (r : V → List V → Hp → VK → Prop) (f : List D → List D → Option (D × List D)) : Prop := ∀ (B H : Hp) (a : Addr) (vs ys : List V) (ds as es : List D) (x : D), Ex B H → H a = some (.lst vs) → DqAll K B vs ds → DqAll K B ys as → f ds as = some (x, es) →
  ∀ Q : VK, (∀ z us, Dq K B z x → DqAll K B us es → Q z (upd H a (.lst us))) → r (.ref a) ys H Q
section
variable {X : Cx} {c : Cc} {E : XS} {pos : Pos} {K : PySem.W.Frag} {B H B0 H0 : Hp} {σ : L2.St} {s s0 : S}
theorem mut_run {r : V → List V → Hp → VK → Prop} {f : List D → List D → Option (D × List D)} (hr : RMut K r f) {i : Nat} {sa : SA} {Q : VK} {H : Hp} (h : trE K c E (sMut i f sa) σ H Q) : tBM K "list" r (tVar i) (trA K c E sa) σ H Q := by
  obtain ⟨B, s, I, q⟩ := of_tr h
  unfold sMut at q
  cases e : s.env[i]? with
  | none => simp only [e] at q; exact q.elim
  | some sl =>
    cases sl with
    | own ds0 =>
      simp only [e] at q
      obtain ⟨a, vs, h1, h2, h3, h4⟩ := I.slot i _ e
      refine ⟨.ref a, h1, .inl ⟨rfl, _, SqL.of h3⟩, trA_mono (bindAP (.refl I) q) fun ys H1 ⟨B2, s2, as, A2, _, dqs, q2⟩ => ?_⟩
      cases e2 : s2.env[i]? with
      | none => simp only [e2] at q2; exact q2.elim
      | some sl2 =>
        cases sl2 with
        | own ds =>
          simp only [e2] at q2
          cases e3 : f ds as with
          | none => simp only [e3] at q2; exact q2.elim
          | some re =>
            obtain ⟨x, es⟩ := re
            simp only [e3] at q2
            obtain ⟨nB, us, h5, h6⟩ := A2.si.ownB e2 h1
            refine hr B2 H1 a us ys ds as es x A2.si.ex h5 h6 dqs e3 Q fun z us' hz hus => ?_
            exact q2 z B2 _ (A2.trans (own_upd A2.si e2 h1 hus)) hz trivial
        | no => simp only [e2] at q2; exact q2.elim
        | val d => simp only [e2] at q2; exact q2.elim
        | cup => simp only [e2] at q2; exact q2.elim
        | xcp x => simp only [e2] at q2; exact q2.elim
    | no => simp only [e] at q; exact q.elim
    | val d => simp only [e] at q; exact q.elim
    | cup => simp only [e] at q; exact q.elim
    | xcp x => simp only [e] at q; exact q.elim
theorem je_mut {r : V → List V → Hp → VK → Prop} {f : List D → List D → Option (D × List D)} {i : Nat} {sa : SA} {e : Expr} (hr : RMut X.K r f) (h : PE X e (tBM X.K "list" r (tVar i) (trA X.K c E sa))) : JE X c E e (sMut i f sa) := pe_imp h fun _ _ _ q => mut_run hr q
/-- appended -/
def fApp (ds as : List D) : Option (D × List D) := match as with
  | [d] => if ds.length < line then some (.non, ds ++ [d]) else none
  | _ => none
theorem rm_app : RMut K rAppend fApp := by
  intro B H a vs ys ds as es x e h dq da hf Q k
  unfold fApp at hf
  split at hf
  · split at hf
    · rename_i z
      cases hf
      cases da with
      | cons h2 da =>
        cases da
        exact ⟨a, vs, _, rfl, rfl, h, line_lt (by rw [dq.length]; exact z), k _ _ .non (dq.append (.one h2))⟩
    · cases hf
  · cases hf
/-- .. by a list -/
def fExt (ds as : List D) : Option (D × List D) := match as with
  | [.lst xs] => if ds.length + xs.length ≤ line then some (.non, ds ++ xs) else none
  | _ => none
theorem rm_ext : RMut K rExtend fExt := by
  intro B H a vs ys ds as es x e h dq da hf Q k
  unfold fExt at hf
  split at hf
  · split at hf
    · rename_i z
      cases hf
      cases da with
      | cons h2 da =>
        cases da
        cases h2 with
        | lst h3 h4 => exact ⟨a, _, vs, _, rfl, rfl, h, e _ _ h3, line_ok (by rw [dq.length, h4.length]; exact z), k _ _ .non (dq.append h4)⟩
    · cases hf
  · cases hf
/-- the item at a place taken out -/
def fPopAt (ds as : List D) : Option (D × List D) := match as with
  | [.int i] => if 0 ≤ i ∧ i < 2 ^ 62 then (ds[i.toNat]?).map fun d => (d, ds.eraseIdx i.toNat) else none
  | _ => none
theorem rm_popAt : RMut K rPopAt fPopAt := by
  intro B H a vs ys ds as es x e h dq da hf Q k
  unfold fPopAt at hf
  split at hf
  · split at hf
    · rename_i i z
      simp only [Option.map_eq_some_iff] at hf
      obtain ⟨d, h1, h2⟩ := hf
      cases h2
      obtain ⟨v, h3, h4⟩ := dq.get h1
      cases da with
      | cons h2 da =>
        cases da
        cases h2
        have hl := (List.getElem?_eq_some_iff.mp h3).1
        have hs : seqIndex? i vs.length = some i.toNat := (ixN_seq (n := vs.length) (i := i) (j := i.toNat) (by unfold ixN; rw [if_pos z.1, if_pos (by omega)])).1
        exact ⟨a, vs, i, i.toNat, v, rfl, rfl, h, by omega, by omega, hs, h3, k _ _ h4 (dq.eraseIdx _)⟩
    · cases hf
  · cases hf
/-- put in at a place -/
def fIns (ds as : List D) : Option (D × List D) := match as with
  | [.int i, d] => if 0 ≤ i ∧ i ≤ ds.length ∧ ds.length < line then some (.non, ds.insertIdx i.toNat d) else none
  | _ => none
end

/-! ### x[i] = e of a list of one's own -/
/-- e, then the place -/
def sSetIx (i : Nat) (se sk : SE) : SS := fun s => (se s).bind fun w s1 => (frz w s1).bind fun d s2 => match s2.env[i]? with
  | some (.own _) => (sk s2).bind fun wk s3 => match wk, s3.env[i]? with
    | .dat (.int k), some (.own ds) => (match ixN ds.length k with
      | some j => .ok .next (setSl s3 i (.own (ds.set j d)))
      | none => .bad)
    | _, _ => .bad
  | _ => .bad
section
variable {X : Cx} {c : Cc} {E : XS} {pos : Pos}
theorem setIx_run {K : PySem.W.Frag} {i : Nat} {se sk : SE} {D : Ends} {σ : L2.St} {H : Hp} (h : trS K c E (sSetIx i se sk) D σ H) : tAsg (trE K c E se) (gSub (tVar i) (trE K c E sk) rSetL) D σ H := by
  obtain ⟨B, s, I, q⟩ := h
  refine trE_mono (bindES I q) fun x H1 ⟨B1, s1, w, A, V, N, q⟩ => ?_
  cases z : frz w s1 with
  | ok d s2 =>
    rw [z] at q
    obtain ⟨B2, A2, dq⟩ := frz_ok A V N z
    have q2 : PostS K c E B H σ s (match s2.env[i]? with
      | some (.own _) => (sk s2).bind fun wk s3 => match wk, s3.env[i]? with
        | .dat (.int k), some (.own ds) => (match ixN ds.length k with
          | some j => .ok .next (setSl s3 i (.own (ds.set j d)))
          | none => .bad)
        | _, _ => .bad
      | _ => .bad) D := q
    cases e : s2.env[i]? with
    | none => simp only [e] at q2; exact q2.elim
    | some sl =>
      cases sl with
      | own ds0 =>
        simp only [e] at q2
        obtain ⟨a, vs, h1, h2, h3, h4⟩ := A2.si.slot i _ e
        refine ⟨.ref a, h1, trE_mono (bindES A2.si (aft_postS A2.toS q2)) fun y H2 ⟨B3, s3, wk, A3, V3, N3, q3⟩ => ?_⟩
        cases wk with
        | dat dk =>
          cases dk with
          | int k =>
            cases V3
            cases e3 : s3.env[i]? with
            | none => simp only [e3] at q3; exact q3.elim
            | some sl3 =>
              cases sl3 with
              | own ds =>
                simp only [e3] at q3
                cases e4 : ixN ds.length k with
                | none => simp only [e4] at q3; exact q3.elim
                | some j =>
                  simp only [e4] at q3
                  obtain ⟨nB, us, h5, h6⟩ := A3.si.ownB e3 h1
                  refine ⟨a, us, k, j, rfl, rfl, h5, by rw [h6.length]; exact e4, ?_⟩
                  exact q3 B3 _ σ (A3.toS.trans (own_upd A3.si e3 h1 (h6.set j (dq.mono A3.st.bb))).toS)
              | no => simp only [e3] at q3; exact q3.elim
              | val d => simp only [e3] at q3; exact q3.elim
              | cup => simp only [e3] at q3; exact q3.elim
              | xcp x => simp only [e3] at q3; exact q3.elim
          | _ => exact q3.elim
        | _ => exact q3.elim
      | no => simp only [e] at q2; exact q2.elim
      | val d => simp only [e] at q2; exact q2.elim
      | cup => simp only [e] at q2; exact q2.elim
      | xcp x => simp only [e] at q2; exact q2.elim
  | exc y s2 => exact absurd z frz_exc
  | bad => rw [z] at q; exact q.elim
theorem js_setIx {i : Nat} {se sk : SE} {st : Stmt} (h : PS X st (tAsg (trE X.K c E se) (gSub (tVar i) (trE X.K c E sk) rSetL))) : JS X c E st (sSetIx i se sk) := ps_imp h fun _ _ _ q => setIx_run q
/-! ### a, b = x, y -/
def slOf : Vw → Option Sl
  | .dat d => some (.val d)
  | .fr ds => some (.own ds)
  | _ => none
def sPar (i j : Nat) (sa sb : SE) : SS := fun s => (sa s).bind fun w1 s1 => (sb s1).bind fun w2 s2 => match slOf w1, slOf w2 with
  | some l1, some l2 => .ok .next (setSl (setSl s2 i l1) j l2)
  | _, _ => .bad
theorem set_new {K : PySem.W.Frag} {B H B0 H0 : Hp} {σ σ0 : L2.St} {s s0 : S} {v : V} {w : Vw} {sl : Sl} (A : AftS K c B0 H0 σ0 s0 B H σ s) (hV : VwOk K c B H σ s v w) (hN : New H0 v w) (i : Nat) (e : slOf w = some sl) : AftS K c B0 H0 σ0 s0 B H (σ.set i (some v)) (setSl s i sl) := by
  cases w with
  | dat d => cases e; exact A.trans (set_val A.si hV)
  | fr ds => cases e; exact set_fr A.si hV hN A.st
  | cup => cases e
  | slot j => cases e
theorem par_run {K : PySem.W.Frag} {i j : Nat} {sa sb : SE} {D : Ends} {σ : L2.St} {H : Hp} (h : trS K c E (sPar i j sa sb) D σ H) : tPar i j (tCons (trE K c E sa) (tCons (trE K c E sb) tNil)) D σ H := by
  obtain ⟨B, s, I, q⟩ := h
  refine trE_mono (bindES I q) fun x H1 ⟨B1, s1, w1, A1, V1, N1, q1⟩ => ?_
  refine trE_mono (bindE (P := fun r => PostS K c E B H σ s r D) A1 q1 (fun x s' q cls dd B' H' A => q cls dd B' H' σ A.toS) id) fun y H2 ⟨B2, s2, w2, A12, A2, V2, N2, q2⟩ => ?_
  have V1' := A2.vw V1
  cases e1 : slOf w1 with
  | none => simp only [e1] at q2; exact q2.elim
  | some l1 =>
    cases e2 : slOf w2 with
    | none => simp only [e1, e2] at q2; exact q2.elim
    | some l2 =>
      simp only [e1, e2] at q2
      refine ⟨x, y, rfl, ?_⟩
      have A4 := set_new A12.toS V1' N1 i e1
      have V2' : VwOk K c B2 H2 (σ.set i (some x)) (setSl s2 i l1) y w2 := by
        cases w2 with
        | dat d => exact V2
        | slot k => cases e2
        | cup => cases e2
        | fr ds =>
          obtain ⟨p, vs, rfl, h1, h2, h3, h4, h5⟩ := V2
          refine ⟨p, vs, rfl, h1, h2, h3, fun z => ?_, h5⟩
          rcases own_in (ds := []) z with z | ⟨es, ew, ex⟩
          · exact h4 z
          · have ex' : x = .ref p := Option.some.inj ex
            cases w1 with
            | dat d => cases e1; cases ew
            | slot k => cases e1
            | cup => cases e1
            | fr xs =>
              obtain ⟨p', vs', h6, _, h7, _⟩ := V1
              have np : Nn H1 p := N2 p rfl
              rw [ex'] at h6
              cases h6
              exact absurd nT_lst (np _ h7)
      have A5 := set_new A4 V2' (N2.back A1.st.th) j e2
      exact q2 B2 H2 _ A5
theorem js_par {i j : Nat} {sa sb : SE} {st : Stmt} (h : PS X st (tPar i j (tCons (trE X.K c E sa) (tCons (trE X.K c E sb) tNil)))) : JS X c E st (sPar i j sa sb) := ps_imp h fun _ _ _ q => par_run q
end
end Eng

namespace Eng
open PySem PySem.Spec PyProof.Rows L2 Evl
variable [Tb]

/-! ### comprehensions -/
def wipeE (e : List Sl) : List Nat → List Sl
  | [] => e
  | v :: vs => (wipeE e vs).set v .no
def unwipeE (e0 e : List Sl) : List Nat → List Sl
  | [] => e
  | v :: vs => match e0[v]? with
    | some sl => (unwipeE e0 e vs).set v sl
    | none => unwipeE e0 e vs
def wipeS (s : S) (vs : List Nat) : S := { s with env := wipeE s.env vs }
def unwipeS (s0 s : S) (vs : List Nat) : S := { s with env := unwipeE s0.env s.env vs }
/-- the comprehension's own slots hold no list of their own -/
def freeV (e : List Sl) (vs : List Nat) : Bool := vs.all fun i => match e[i]? with
  | some .no => true
  | some (.val _) => true
  | _ => false
/-- no exception here -/
def Res.noX {α : Type} (r : Res α) : Res α := match r with
  | .ok a s => .ok a s
  | _ => .bad
/-- the turns: acc is the list so far -/
def lcL (sg : SG) (st : SB) (se : SE) (vs : List Nat) : List D → List D → S → Res Vw
  | [], acc, s => .ok (.fr acc) s
  | d :: ds, acc, s => if freeV s.env vs = true then match sg d (wipeS s vs) with
      | some s1 => (st s1).noX.bind fun b s2 => match b with
        | false => lcL sg st se vs ds acc (unwipeS s s2 vs)
        | true => (se s2).noX.bind fun w s3 => (frz w s3).bind fun r s4 => if acc.length < line then lcL sg st se vs ds (acc ++ [r]) (unwipeS s s4 vs) else .bad
      | none => .bad
    else .bad
def sLc (si : SI) (sg : SG) (st : SB) (se : SE) (vs : List Nat) : SE := fun s => (si s).bind fun ds s1 => lcL sg st se vs ds [] s1

section
variable {K : PySem.W.Frag} {c : Cc} {E : XS} {B H B0 H0 B1 H1 B2 H2 : Hp} {σ σ0 σ1 σ2 : L2.St} {s s0 s1 s2 : S} {v : V}
theorem wipe_get {vs : List Nat} {j : Nat} : (wipe σ vs)[j]? = if j ∈ vs ∧ j < σ.length then some none else σ[j]? := by
  induction vs with
  | nil => simp [wipe]
  | cons a vs ih =>
    unfold wipe
    by_cases h : a = j
    · subst h
      rw [List.getElem?_set]
      simp [wipe_length]
      by_cases z : a < σ.length
      · simp [z]
      · simp [z]
    · rw [List.getElem?_set_ne h, ih]
      have h' : ¬ j = a := fun z => h z.symm
      simp [h']
theorem wipeE_get {e : List Sl} {vs : List Nat} {j : Nat} : (wipeE e vs)[j]? = if j ∈ vs ∧ j < e.length then some .no else e[j]? := by
  have hl : ∀ vs : List Nat, (wipeE e vs).length = e.length := fun vs => by
    induction vs with
    | nil => rfl
    | cons a vs ih => simp [wipeE, ih]
  induction vs with
  | nil => simp [wipeE]
  | cons a vs ih =>
    unfold wipeE
    by_cases h : a = j
    · subst h
      rw [List.getElem?_set]
      simp [hl]
      by_cases z : a < e.length
      · simp [z]
      · simp [z]
    · rw [List.getElem?_set_ne h, ih]
      have h' : ¬ j = a := fun z => h z.symm
      simp [h']
theorem unwipeE_len {e0 e : List Sl} : ∀ vs : List Nat, (unwipeE e0 e vs).length = e.length
  | [] => rfl
  | a :: vs => by
    unfold unwipeE
    split <;> simp [unwipeE_len vs]
theorem unwipeE_get {e0 e : List Sl} (hl : e.length = e0.length) {vs : List Nat} {j : Nat} : (unwipeE e0 e vs)[j]? = if j ∈ vs then e0[j]? else e[j]? := by
  have hu : ∀ vs : List Nat, (unwipeE e0 e vs).length = e.length := fun vs => by
    induction vs with
    | nil => rfl
    | cons a vs ih =>
      unfold unwipeE
      split <;> simp [ih]
  induction vs with
  | nil => simp [unwipeE]
  | cons a vs ih =>
    unfold unwipeE
    by_cases h : a = j
    · subst h
      cases z : e0[a]? with
      | some sl =>
        have hz := (List.getElem?_eq_some_iff.mp z).1
        simp only [List.mem_cons, true_or, if_true]
        rw [List.getElem?_set_self (by rw [hu]; omega)]
      | none =>
        have hz := List.getElem?_eq_none_iff.mp z
        simp only [List.mem_cons, true_or, if_true]
        rw [List.getElem?_eq_none_iff]
        rw [hu]; omega
    · have h' : ¬ j = a := fun z => h z.symm
      cases z : e0[a]? with
      | some sl =>
        simp only
        rw [List.getElem?_set_ne h, ih]
        simp [h']
      | none =>
        simp only
        rw [ih]
        simp [h']
theorem wipe_wipe {vs : List Nat} (h : ∀ j, j ∉ vs → σ2[j]? = σ[j]?) (hl : σ2.length = σ.length) : wipe σ2 vs = wipe σ vs := by
  refine List.ext_getElem? fun j => ?_
  rw [wipe_get, wipe_get, hl]
  split
  · rfl
  · rename_i z
    by_cases m : j ∈ vs
    · have : σ.length ≤ j := Nat.le_of_not_lt fun q => z ⟨m, q⟩
      rw [List.getElem?_eq_none_iff.mpr (by omega), List.getElem?_eq_none_iff.mpr this]
    · exact h j m
theorem free_no {vs : List Nat} (h : freeV s.env vs = true) {j : Nat} (m : j ∈ vs) {sl : Sl} (e : s.env[j]? = some sl) : sl = .no ∨ ∃ d, sl = .val d := by
  have z := (List.all_eq_true.mp h) j m
  rw [e] at z
  cases sl with
  | no => exact .inl rfl
  | val d => exact .inr ⟨d, rfl⟩
  | own d => cases z
  | cup => cases z
  | xcp x => cases z
theorem own_wipe {vs : List Nat} {a : Addr} (h : Own (wipeE s.env vs) (wipe σ vs) a) : Own s.env σ a := by
  obtain ⟨j, ds, h1, h2⟩ := h
  rw [wipeE_get] at h1
  split at h1
  · cases h1
  · rename_i z
    rw [wipe_get] at h2
    split at h2
    · cases h2
    · exact ⟨j, ds, h1, h2⟩
theorem Sim.wipe (I : Sim K c B H σ s) (vs : List Nat) : Sim K c B H (L2.wipe σ vs) (wipeS s vs) := by
  have hl : (wipeE s.env vs).length = s.env.length := by
    induction vs with
    | nil => rfl
    | cons a vs ih => simp [wipeE, ih]
  refine ⟨I.ex, by rw [wipe_length, I.len]; exact hl.symm, fun j sl h => ?_, fun i j ds es a h1 h2 h3 h4 => ?_, fun a h => ?_, I.tb⟩
  · have h' : (wipeE s.env vs)[j]? = some sl := h
    rw [wipeE_get] at h'
    split at h'
    · cases h'; trivial
    · rename_i z
      have e : (L2.wipe σ vs)[j]? = σ[j]? := by
        rw [wipe_get, if_neg]
        rw [I.len]
        exact z
      have q := I.slot j sl h'
      cases sl with
      | no => trivial
      | val d => obtain ⟨v, q1, q2⟩ := q; exact ⟨v, by rw [e]; exact q1, q2⟩
      | own ds => obtain ⟨a, us, q1, q2⟩ := q; exact ⟨a, us, by rw [e]; exact q1, q2⟩
      | cup => obtain ⟨a, q1, q2⟩ := q; exact ⟨a, q1, by rw [e]; exact q2⟩
      | xcp x => obtain ⟨a, cl, dd, q0, q1, q2⟩ := q; exact ⟨a, cl, dd, q0, by rw [e]; exact q1, q2⟩
  · have g : ∀ {j : Nat} {ds : List D}, (wipeE s.env vs)[j]? = some (Sl.own ds) → s.env[j]? = some (Sl.own ds) := fun {j ds} h => by
      rw [wipeE_get] at h
      split at h
      · cases h
      · exact h
    have g2 : ∀ {j : Nat} {x : V}, (L2.wipe σ vs)[j]? = some (some x) → σ[j]? = some (some x) := fun {j x} h => by
      rw [wipe_get] at h
      split at h
      · cases h
      · exact h
    exact I.dis i j ds es a (g h1) (g h2) (g2 h3) (g2 h4)
  · obtain ⟨q1, q2, q3⟩ := I.cu a h
    exact ⟨q1, q2, fun z => q3 (own_wipe z)⟩
/-- behind a turn: the slots of the comprehension as they were -/
theorem unwipe_aft {vs : List Nat} (I : Sim K c B H σ s) (fr : freeV s.env vs = true) (hσ : ∀ j, j ∉ vs → σ2[j]? = σ[j]?) (hl : σ2.length = σ.length) (A : AftS K c B H (L2.wipe σ vs) (wipeS s vs) B2 H2 σ2 s2) (ke : ∀ j, j ∉ vs → ∀ sl, s.env[j]? = some sl → isV sl = true → ∃ sl', s2.env[j]? = some sl' ∧ isV sl' = true) : Aft K c B H σ s B2 H2 (unwipeS s s2 vs) := by
  have le : s2.env.length = s.env.length := by
    rw [← A.si.len, hl, I.len]
  have own1 : ∀ a, Own (unwipeE s.env s2.env vs) σ a → Own s2.env σ2 a := fun a ⟨j, ds, h1, h2⟩ => by
    rw [unwipeE_get le] at h1
    split at h1
    · rename_i m
      rcases free_no fr m h1 with e | ⟨d, e⟩ <;> cases e
    · rename_i m
      exact ⟨j, ds, h1, by rw [hσ j m]; exact h2⟩
  have own2 : ∀ a, Own (wipeE s.env vs) (L2.wipe σ vs) a → Own s.env σ a := fun a z => own_wipe z
  refine ⟨⟨A.st.bb, fun a o h t n k => A.st.hh a o h t (fun z => n (own2 a z)) k, fun a o h => ?_, fun a h => ?_, A.st.th⟩, ⟨A.si.ex, ?_, fun j sl h => ?_, fun i j ds es a h1 h2 h3 h4 => ?_, fun a h => ?_, A.si.tb⟩, fun j sl h v => ?_⟩
  · rcases A.st.gr a o h with z | z | z
    · exact .inl z
    · exact .inr (.inl z)
    · exact .inr (.inr (own2 a z))
  · rcases A.st.ow a (own1 a h) with z | z
    · exact .inl (own2 a z)
    · exact .inr z
  · show σ.length = (unwipeE s.env s2.env vs).length
    rw [unwipeE_len, le, I.len]
  · have h' : (unwipeE s.env s2.env vs)[j]? = some sl := h
    rw [unwipeE_get le] at h'
    split at h'
    · rename_i m
      rcases free_no fr m h' with e | ⟨d, e⟩
      · subst e; trivial
      · subst e
        obtain ⟨v, q1, q2⟩ := I.slot j _ h'
        exact ⟨v, q1, q2.mono A.st.bb⟩
    · rename_i m
      have q := A.si.slot j sl h'
      have e := hσ j m
      cases sl with
      | no => trivial
      | val d => obtain ⟨v, q1, q2⟩ := q; exact ⟨v, by rw [← e]; exact q1, q2⟩
      | own ds => obtain ⟨a, us, q1, q2⟩ := q; exact ⟨a, us, by rw [← e]; exact q1, q2⟩
      | cup => obtain ⟨a, q1, q2⟩ := q; exact ⟨a, q1, by rw [← e]; exact q2⟩
      | xcp x => obtain ⟨a, cl, dd, q0, q1, q2⟩ := q; exact ⟨a, cl, dd, q0, by rw [← e]; exact q1, q2⟩
  · have g : ∀ {j : Nat} {ds : List D}, (unwipeE s.env s2.env vs)[j]? = some (Sl.own ds) → s2.env[j]? = some (Sl.own ds) ∧ σ2[j]? = σ[j]? := fun {j ds} h => by
      rw [unwipeE_get le] at h
      split at h
      · rename_i m
        rcases free_no fr m h with e | ⟨d, e⟩ <;> cases e
      · rename_i m
        exact ⟨h, hσ j m⟩
    obtain ⟨g1, g2⟩ := g h1
    obtain ⟨g3, g4⟩ := g h2
    exact A.si.dis i j ds es a g1 g3 (by rw [g2]; exact h3) (by rw [g4]; exact h4)
  · obtain ⟨q1, q2, q3⟩ := A.si.cu a h
    exact ⟨q1, q2, fun z => q3 (own1 a z)⟩
  · show ∃ sl', (unwipeE s.env s2.env vs)[j]? = some sl' ∧ isV sl' = true
    rw [unwipeE_get le]
    by_cases m : j ∈ vs
    · rw [if_pos m]; exact ⟨sl, h, v⟩
    · rw [if_neg m]; exact ke j m sl h v
/-- an object besides, changed -/
theorem Sim.besides (I : Sim K c B H σ s) {p : Addr} {o : HO} (wr : Wr H p) (hB : B p = none) (no : ¬ Own s.env σ p) (nc : c.cup ≠ some p) : Sim K c B (upd H p o) σ s := by
  have nb : ∀ a u, B a = some u → a ≠ p := fun a u h z => by rw [z, hB] at h; cases h
  refine ⟨fun a u h => by rw [upd_ne (nb a u h)]; exact I.ex a u h, I.len, fun j sl h => ?_, I.dis, fun a h => ?_, I.tb.put wr⟩
  · have z := I.slot j sl h
    cases sl with
    | no => trivial
    | val d => exact z
    | own ds =>
      obtain ⟨a, us, q1, q2, q3, q4⟩ := z
      exact ⟨a, us, q1, q2, by rw [upd_ne (fun e => no ⟨j, ds, h, by rw [← e]; exact q1⟩)]; exact q3, q4⟩
    | cup => exact z
    | xcp x => exact z
  · obtain ⟨q1, q2, q3⟩ := I.cu a h
    exact ⟨q1, by rw [upd_ne (fun e => nc (by rw [← e]; exact h))]; exact q2, q3⟩
theorem Aft.besides (A : Aft K c B0 H0 σ s0 B H s) {p : Addr} {o : HO} (wr : Wr H p) (n : Nn H0 p) (hB : B p = none) (no : ¬ Own s.env σ p) (nc : c.cup ≠ some p) : Aft K c B0 H0 σ s0 B (upd H p o) s := by
  have ne : ∀ a u, H0 a = some u → nT u → a ≠ p := fun a u h t => n.ne h t
  refine ⟨⟨A.st.bb, fun a u h t h1 h2 => by rw [upd_ne (ne a u h t)]; exact A.st.hh a u h t h1 h2, A.st.gr, A.st.ow, fun a u h t => ?_⟩, A.si.besides wr hB no nc, A.ke⟩
  rw [upd_ne (ne a u h t)]
  exact A.st.th a u h t
/-- a comprehension's target: it stores into the comprehension's own slots alone -/
def GOk (vs : List Nat) (sg : SG) (g : TG) : Prop := ∀ (K : PySem.W.Frag) (c : Cc) (B H : Hp) (σ : L2.St) (s s' : S) (v : V) (d : D), Sim K c B H σ s → Dq K B v d → sg d s = some s' → ∀ Q : L2.St → Hp → Prop,
  (∀ σ2, (∀ j, j ∉ vs → σ2[j]? = σ[j]? ∧ s'.env[j]? = s.env[j]?) → σ2.length = σ.length → AftS K c B H σ s B H σ2 s' → Q σ2 H) → g v σ H Q
theorem gok_name {vs : List Nat} {i : Nat} (h : i ∈ vs) : GOk vs (sgName i) (gName i) := by
  intro K c B H σ s s' v d I dq e Q k
  cases e
  refine k _ (fun j m => ?_) (by simp) (set_val I dq)
  have n : i ≠ j := fun z => m (z ▸ h)
  exact ⟨List.getElem?_set_ne n, List.getElem?_set_ne n⟩
theorem gok_two {vs : List Nat} {i j : Nat} (hi : i ∈ vs) (hj : j ∈ vs) : ∀ K : PySem.W.Frag, ∀ (c : Cc) (B H : Hp) (σ : L2.St) (s s' : S) (v : V) (d : D), Sim K c B H σ s → Dq K B v d → sgTwo i j d s = some s' → ∀ Q : L2.St → Hp → Prop,
    (∀ σ2, (∀ l, l ∉ vs → σ2[l]? = σ[l]? ∧ s'.env[l]? = s.env[l]?) → σ2.length = σ.length → AftS K c B H σ s B H σ2 s' → Q σ2 H) → gTup K 2 (gCons (gName i) (gCons (gName j) gNil)) v σ H Q := by
  intro K c B H σ s s' v d I dq e Q k
  unfold sgTwo at e
  split at e
  · cases e
    cases dq with
    | tup ht da =>
      cases da with
      | cons d1 da =>
        cases da with
        | cons d2 da =>
          cases da
          have A1 := set_val (i := i) I d1
          have A2 := set_val (i := j) A1.si d2
          refine ⟨_, _, rfl, ex_t I.ex ht, rfl, _, _, rfl, _, _, rfl, rfl, k _ (fun l m => ?_) (by simp) (A1.trans A2)⟩
          have n1 : i ≠ l := fun z => m (z ▸ hi)
          have n2 : j ≠ l := fun z => m (z ▸ hj)
          exact ⟨by rw [List.getElem?_set_ne n2, List.getElem?_set_ne n1], by simp only [setSl]; rw [List.getElem?_set_ne n2, List.getElem?_set_ne n1]⟩
  · cases e
/-- .. with K told -/
def GOkK (K : PySem.W.Frag) (vs : List Nat) (sg : SG) (g : TG) : Prop := ∀ (c : Cc) (B H : Hp) (σ : L2.St) (s s' : S) (v : V) (d : D), Sim K c B H σ s → Dq K B v d → sg d s = some s' → ∀ Q : L2.St → Hp → Prop,
  (∀ σ2, (∀ j, j ∉ vs → σ2[j]? = σ[j]? ∧ s'.env[j]? = s.env[j]?) → σ2.length = σ.length → AftS K c B H σ s B H σ2 s' → Q σ2 H) → g v σ H Q
theorem lc_run {vs : List Nat} {si : SI} {sg : SG} {st : SB} {se : SE} {g : TG} (hg : GOkK K vs sg g) {Q : VK} {H : Hp} (h : trE K c EN (sLc si sg st se vs) σ H Q) : tLc (trI K c EN si) g (trT K c EN st) (trE K c EN se) vs σ H Q := by
  obtain ⟨B, s, I, q⟩ := of_tr h
  refine ⟨B, s, I, ?_⟩
  unfold sLc at q
  cases e : si s with
  | exc x s1 => rw [e] at q; exact q
  | bad => rw [e] at q; exact q
  | ok ds s1 =>
    rw [e] at q
    intro J B1 H1 A1 W D hD
    obtain ⟨G, Y, wk, hG, hY⟩ := W
    have hBD : B1 D = none := A1.si.bnone hD
    -- what holds between the turns
    have q1 : Post K c EN B H σ s (lcL sg st se vs ds [] s1) Q := q
    have noD : ¬ Own s1.env σ D := fun ⟨i, es, z1, z2⟩ => by
      obtain ⟨_, us, z3, _⟩ := A1.si.ownB z1 z2
      rw [hD] at z3
      cases z3
    have ncD : c.cup ≠ some D := fun z => by
      obtain ⟨_, z2, _⟩ := A1.si.cu D z
      rw [hD] at z2
      cases z2
    have nHD : Nn H D := A1.st.nn (.of hD)
    refine lc_it wk (fun i H2 => ∃ B2 s2 acc us, Aft K c B H σ s B2 H2 s2 ∧ Ex B1 B2 ∧ H2 D = some (.lst us) ∧ DqAll K B2 us acc ∧ B2 D = none ∧ ¬ Own s2.env σ D ∧ Post K c EN B H σ s (lcL sg st se vs (ds.drop i) acc s2) Q)
      ⟨B1, s1, [], [], A1.besides (.none hD) nHD hBD noD ncD, Ex.refl _, upd_same, .nil, hBD, noD, q1⟩ (fun i H2 _ ⟨B2, s2, acc, us, A2, e2, _⟩ => hG H2 (e2.trans A2.si.ex)) ?_ ?_
    · rintro i x H2 H3 hi ⟨B2, s2, acc, us, A2, e2, hD2, dqu, bD2, no2, q2⟩ y
      have hd : ds[i]? = some ds[i] := List.getElem?_eq_getElem hi
      rw [List.drop_eq_getElem_cons hi] at q2
      obtain ⟨B3, m⟩ := hY i _ B2 H2 x H3 hd e2 A2.si.ex y
      obtain ⟨A3, V3, _⟩ := m.aft (.refl A2.si)
      simp only [lcL] at q2
      by_cases fr : freeV s2.env vs = true
      · rw [if_pos fr] at q2
        cases z : sg ds[i] (wipeS s2 vs) with
        | none => simp only [z] at q2; exact q2.elim
        | some s4 =>
          simp only [z] at q2
          have A23 := A2.trans A3
          have hD3 : H3 D = some (.lst us) := A3.st.hh D _ hD2 nT_lst no2 ncD
          have bD3 : B3 D = none := by
            cases zz : B3 D with
            | none => rfl
            | some o =>
              rcases A3.st.gr D o zz with w | w | w
              · exact absurd bD2 w
              · exact absurd nT_lst (w _ hD2)
              · exact absurd w no2
          refine hg c B3 H3 _ (wipeS s2 vs) s4 x _ (A3.si.wipe vs) V3 z _ fun σ2 hout hlen A4 => ?_
          have hσ : ∀ j, j ∉ vs → σ2[j]? = σ[j]? := fun j mj => (hout j mj).1.trans (wipe_out mj)
          have hl2 : σ2.length = σ.length := by rw [hlen, wipe_length]
          refine ⟨wipe_wipe hσ hl2, ?_⟩
          have no4 : ¬ Own s4.env σ2 D := fun zz => by
            rcases A4.st.ow D zz with w | w
            · exact no2 (own_wipe w)
            · exact absurd nT_lst (w _ hD3)
          -- the rest of the turn, from the target on
          have keep0 : ∀ j, j ∉ vs → ∀ sl, s2.env[j]? = some sl → isV sl = true → ∃ sl', s4.env[j]? = some sl' ∧ isV sl' = true := fun j mj sl hs hv => by
            refine ⟨sl, ?_, hv⟩
            rw [(hout j mj).2]
            show (wipeE s2.env vs)[j]? = some sl
            rw [wipeE_get, if_neg (fun z => mj z.1)]
            exact hs
          have back : ∀ {B5 H5 : Hp} {s5 : S}, Aft K c B3 H3 σ2 s4 B5 H5 s5 → Aft K c B H σ s B5 H5 (unwipeS s2 s5 vs) := fun {B5 H5 s5} A5 => by
            refine A23.trans (unwipe_aft A3.si fr hσ hl2 (A4.trans A5.toS) fun j mj sl hs hv => ?_)
            obtain ⟨sl', h1, h2⟩ := keep0 j mj sl hs hv
            exact A5.ke j sl' h1 h2
          refine ⟨B3, s4, A4.si, ?_⟩
          cases zt : st s4 with
          | exc x s5 => rw [zt] at q2; exact q2.elim
          | bad => rw [zt] at q2; exact q2.elim
          | ok b s5 =>
            rw [zt] at q2
            intro B5 H5 A5
            have hD5 : H5 D = some (.lst us) := A5.st.hh D _ hD3 nT_lst no4 ncD
            have bD5 : B5 D = none := by
              cases zz : B5 D with
              | none => rfl
              | some o =>
                rcases A5.st.gr D o zz with w | w | w
                · exact absurd bD3 w
                · exact absurd nT_lst (w _ hD3)
                · exact absurd w no4
            have no5 : ¬ Own s5.env σ2 D := fun zz => by
              rcases A5.st.ow D zz with w | w
              · exact no4 w
              · exact absurd nT_lst (w _ hD3)
            have unown : ∀ {s6 : S}, s6.env.length = s2.env.length → ¬ Own s6.env σ2 D → ¬ Own (unwipeS s2 s6 vs).env σ D := fun {s6} hl no ⟨j, es, z1, z2⟩ => by
              have z1' : (unwipeE s2.env s6.env vs)[j]? = some (Sl.own es) := z1
              rw [unwipeE_get hl] at z1'
              split at z1'
              · rename_i mj
                rcases free_no fr mj z1' with w | ⟨d, w⟩ <;> cases w
              · rename_i mj
                exact no ⟨j, es, z1', by rw [hσ j mj]; exact z2⟩
            have len_of : ∀ {B6 H6 : Hp} {s6 : S}, Aft K c B3 H3 σ2 s4 B6 H6 s6 → s6.env.length = s2.env.length := fun {B6 H6 s6} A => by
              rw [← A.si.len, hl2, A3.si.len]
            cases b with
            | false =>
              refine iteF ⟨B5, _, acc, us, back A5, ((e2.trans A3.st.bb)).trans A5.st.bb, hD5, (dqu.mono A3.st.bb).mono A5.st.bb, bD5, unown (len_of A5) no5, q2⟩
            | true =>
              refine iteT ⟨B5, s5, A5.si, ?_⟩
              have q3 : Post K c EN B H σ s ((se s5).noX.bind fun w s3 => (frz w s3).bind fun r s4 => if acc.length < line then lcL sg st se vs (ds.drop (i + 1)) (acc ++ [r]) (unwipeS s2 s4 vs) else .bad) Q := q2
              cases ze : se s5 with
              | exc x s6 => rw [ze] at q3; exact q3.elim
              | bad => rw [ze] at q3; exact q3.elim
              | ok w s6 =>
                rw [ze] at q3
                intro y B6 H6 A6 V6 N6
                have q4 : Post K c EN B H σ s ((frz w s6).bind fun r s4 => if acc.length < line then lcL sg st se vs (ds.drop (i + 1)) (acc ++ [r]) (unwipeS s2 s4 vs) else .bad) Q := q3
                cases zf : frz w s6 with
                | exc x s7 => exact absurd zf frz_exc
                | bad => rw [zf] at q4; exact q4.elim
                | ok r s7 =>
                  rw [zf] at q4
                  obtain ⟨B7, A7, dq7⟩ := frz_ok A6 V6 N6 zf
                  have q5 : Post K c EN B H σ s (if acc.length < line then lcL sg st se vs (ds.drop (i + 1)) (acc ++ [r]) (unwipeS s2 s7 vs) else .bad) Q := q4
                  split at q5
                  · rename_i hlt
                    have A57 := A5.trans A7
                    have hD6 : H6 D = some (.lst us) := A7.st.hh D _ hD5 nT_lst no5 ncD
                    have bD7 : B7 D = none := by
                      cases zz : B7 D with
                      | none => rfl
                      | some o =>
                        rcases A7.st.gr D o zz with w | w | w
                        · exact absurd bD5 w
                        · exact absurd nT_lst (w _ hD5)
                        · exact absurd w no5
                    have no7 : ¬ Own s7.env σ2 D := fun zz => by
                      rcases A7.st.ow D zz with w | w
                      · exact no5 w
                      · exact absurd nT_lst (w _ hD5)
                    have e7 := ((e2.trans A3.st.bb).trans A5.st.bb).trans A7.st.bb
                    have dq : DqAll K B7 us acc := ((dqu.mono A3.st.bb).mono A5.st.bb).mono A7.st.bb
                    have no' := unown (len_of A57) no7
                    exact ⟨us, hD6, line_lt (by rw [dq.length]; exact hlt), B7, _, acc ++ [r], us ++ [y], (back A57).besides (.lst hD6) nHD bD7 no' ncD, e7, upd_same, dq.append (.one dq7), bD7, no', q5⟩
                  · exact q5.elim
      · rw [if_neg fr] at q2; exact q2.elim
    · rintro H2 ⟨B2, s2, acc, us, A2, e2, hD2, dqu, bD2, no2, q2⟩
      rw [List.drop_length] at q2
      refine q2 (.ref D) B2 H2 A2 ⟨D, us, rfl, bD2, hD2, dqu, no2, ncD⟩ fun p hp => ?_
      cases hp
      exact nHD
end
end Eng

namespace Eng
open PySem PySem.Spec PyProof.Rows L2 Evl
variable [Tb]

def sYes : SB := fun s => .ok true s
section
variable {X : Cx} {c : Cc} {E : XS} {pos : Pos}
theorem pts_imp {ifs : List Expr} {t t' : TT} (h : PTs X ifs t) (i : ∀ σ H Q, t' σ H Q → t σ H Q) : PTs X ifs t' := ⟨fun pins s σ H Q I q => h.run pins s σ H Q I (i σ H Q q)⟩
theorem jts_nil : PTs X [] (trT X.K c E sYes) := pts_imp pts_nil fun σ H Q ⟨B, s, I, q⟩ => q B H (.refl I)
theorem je_lc {elt tg iter : Expr} {ifs : List Expr} {scope : Scope} {own : List (Str × Nat)} {si : SI} {sg : SG} {g : TG} {st : SB} {se : SE} (hN : X.N.Nodup) (hi : JI X c EN tg iter si) (ok : BlkOk X.N X.env.scope scope own)
    (hg : ∀ (s : Shared) (H : Hp) (C : Addr) (cl : List (Str × Addr)) (fp : List Addr), PG (X.blk s H scope (compEnvC scope cl C X.env) fp) tg g) (gk : GOkK X.K (own.map (·.2)) sg g)
    (ht : ∀ (s : Shared) (H : Hp) (C : Addr) (cl : List (Str × Addr)) (fp : List Addr), PTs (X.blk s H scope (compEnvC scope cl C X.env) fp) ifs (trT X.K c EN st))
    (he : ∀ (s : Shared) (H : Hp) (C : Addr) (cl : List (Str × Addr)) (fp : List Addr), PE (X.blk s H scope (compEnvC scope cl C X.env) fp) elt (trE X.K c EN se)) (hc : X.calm = true := by rfl) (hs : ∀ x, foldedSetIterable iter X.env x = pure x := by intro _; rfl) :
    JE X c EN (.ListComp elt [⟨tg, iter, ifs, 0⟩] scope pos) (sLc si sg st se (own.map (·.2))) := pe_imp (pe_lc hc hN hi ok hg ht he hs) fun _ _ _ q => lc_run gk q
theorem js_setLc {i : Nat} {own : List (Str × Nat)} {si : SI} {sg : SG} {g : TG} {st : SB} {se : SE} {stm : Stmt} (gk : GOkK X.K (own.map (·.2)) sg g) (h : PS X stm (tAsg (tLc (trI X.K c EN si) g (trT X.K c EN st) (trE X.K c EN se) (own.map (·.2))) (gName i))) : JS X c EN stm (sAsg i (sLc si sg st se (own.map (·.2)))) :=
  ps_imp h fun _ _ _ q => lc_run gk (asg_run q)
/-! ### built-ins -/
theorem je_b1 {id : String} {x : Str} {p : Pos} {r : List V → Hp → VK → Prop} {f : D → Option Vw} {a : Expr} {sa : SE} (hc : CallR X (.builtin id) r) (h : RO1 X.K (fun v H Q => r [v] H Q) f) (hm : X.mg x = none) (hv : bootBuiltins x = some (.builtin id)) (ha : JE X c E a sa) (hg : Gl X x := by rfl)
    (hn : x ≠ "__name__" := by decide) (hdb : (x == ("__debug__" : Str)) = false := by decide) (hs : starEach [a] X.env = (false, eval a X.env) :: starEach [] X.env := by rfl) (hpl : (backTo pos (starEach [] X.env)).any (·.1) = false := by rfl) : JE X c E (.Call (.Name x p) [a] [] pos) (sOp1 f sa) :=
  pe_imp (pe_callB hc hg hm hv (pa_cons ha pa_nil hs) hn hdb hs hpl) fun _ _ _ q => op1_run h q
theorem je_t1 {T : String} {x : Str} {p : Pos} {r : List V → Hp → VK → Prop} {f : D → Option Vw} {a : Expr} {sa : SE} (hc : CallR X (.type T) r) (h : RO1 X.K (fun v H Q => r [v] H Q) f) (hm : X.mg x = none) (hv : bootBuiltins x = some (.type T)) (ha : JE X c E a sa) (hg : Gl X x := by rfl)
    (hn : x ≠ "__name__" := by decide) (hdb : (x == ("__debug__" : Str)) = false := by decide) (hs : starEach [a] X.env = (false, eval a X.env) :: starEach [] X.env := by rfl) (hpl : (backTo pos (starEach [] X.env)).any (·.1) = false := by rfl) : JE X c E (.Call (.Name x p) [a] [] pos) (sOp1 f sa) :=
  pe_imp (pe_callTy hc hg hm hv (pa_cons ha pa_nil hs) hn hdb hs hpl) fun _ _ _ q => op1_run h q
theorem je_b2 {id : String} {x : Str} {p : Pos} {r : List V → Hp → VK → Prop} {f : D → D → Option Vw} {a b : Expr} {sa sb : SE} (hc : CallR X (.builtin id) r) (h : RO2 X.K (fun v u H Q => r [v, u] H Q) f) (hm : X.mg x = none) (hv : bootBuiltins x = some (.builtin id)) (ha : JE X c E a sa) (hb : JE X c E b sb) (hg : Gl X x := by rfl)
    (hn : x ≠ "__name__" := by decide) (hdb : (x == ("__debug__" : Str)) = false := by decide) (hs : starEach [a, b] X.env = (false, eval a X.env) :: starEach [b] X.env := by rfl) (hs2 : starEach [b] X.env = (false, eval b X.env) :: starEach [] X.env := by rfl) (hpl : (backTo pos (starEach [b] X.env)).any (·.1) = false := by rfl) : JE X c E (.Call (.Name x p) [a, b] [] pos) (sOp2 f sa sb) :=
  pe_imp (pe_callB hc hg hm hv (pa_cons ha (pa_cons hb pa_nil hs2) hs) hn hdb hs hpl) fun _ _ _ q => op2_run h q
/-- a name imported from math -/
theorem je_m1 {id : String} {x : Str} {p : Pos} {r : List V → Hp → VK → Prop} {f : D → Option Vw} {a : Expr} {sa : SE} (hc : CallR X (.builtin id) r) (h : RO1 X.K (fun v H Q => r [v] H Q) f) (hm : X.mg x = some (.builtin id)) (ha : JE X c E a sa) (hg : Gl X x := by rfl)
    (hdb : (x == ("__debug__" : Str)) = false := by decide) (hs : starEach [a] X.env = (false, eval a X.env) :: starEach [] X.env := by rfl) (hpl : (backTo pos (starEach [] X.env)).any (·.1) = false := by rfl) : JE X c E (.Call (.Name x p) [a] [] pos) (sOp1 f sa) :=
  pe_imp (pe_callBfun hc hg hm (pa_cons ha pa_nil hs) hdb hs hpl) fun _ _ _ q => op1_run h q
theorem je_m2 {id : String} {x : Str} {p : Pos} {r : List V → Hp → VK → Prop} {f : D → D → Option Vw} {a b : Expr} {sa sb : SE} (hc : CallR X (.builtin id) r) (h : RO2 X.K (fun v u H Q => r [v, u] H Q) f) (hm : X.mg x = some (.builtin id)) (ha : JE X c E a sa) (hb : JE X c E b sb) (hg : Gl X x := by rfl)
    (hdb : (x == ("__debug__" : Str)) = false := by decide) (hs : starEach [a, b] X.env = (false, eval a X.env) :: starEach [b] X.env := by rfl) (hs2 : starEach [b] X.env = (false, eval b X.env) :: starEach [] X.env := by rfl) (hpl : (backTo pos (starEach [b] X.env)).any (·.1) = false := by rfl) : JE X c E (.Call (.Name x p) [a, b] [] pos) (sOp2 f sa sb) :=
  pe_imp (pe_callBfun hc hg hm (pa_cons ha (pa_cons hb pa_nil hs2) hs) hdb hs hpl) fun _ _ _ q => op2_run h q
end
section
variable {K : PySem.W.Frag} {X : Cx}
/-- len -/
def lenD : D → Option Vw
  | .lst ds => some (.dat (.int ds.length))
  | .tup ds => some (.dat (.int ds.length))
  | .scr ns => some (.dat (.int ns.length))
  | .str z => if z.length ≤ line then some (.dat (.int z.length)) else none
  | _ => none
def rLen (K : PySem.W.Frag) : List V → Hp → VK → Prop := fun xs H Q => (∃ p ys, xs = [.ref p] ∧ (SqL K H p ys ∨ SqT K H p ys) ∧ Q (.int ys.length) H) ∨ ∃ z, xs = [.str z] ∧ z.length ≤ sizeLine ∧ Q (.int z.length) H
theorem cr_len : CallR X (.builtin "len") (rLen X.K) := CallR.or call_len_seq call_len_str
theorem ro_len : RO1 K (fun v H Q => rLen K [v] H Q) lenD := by
  intro B H x d w e p q Q k
  cases d <;> simp only [lenD, reduceCtorEq] at q
  case str z =>
    split at q
    · rename_i hz
      cases q
      rw [p.str_inv]
      exact .inr ⟨z, rfl, line_ok hz, k _ B H (.old (.int _))⟩
    · cases q
  case scr ns =>
    cases q
    cases p with
    | scr h1 =>
      refine .inl ⟨_, _, rfl, .inl (ex_l e h1), ?_⟩
      rw [List.length_map]
      exact k _ B H (.old (.int _))
  case tup ds =>
    cases q
    obtain ⟨a, vs, rfl, h1, _, h2⟩ := p.tup_inv e
    refine .inl ⟨a, vs, rfl, .inr h1, ?_⟩
    rw [h2.length]
    exact k _ B H (.old (.int _))
  case lst ds =>
    cases q
    obtain ⟨a, vs, rfl, h1, h2⟩ := p.lst_inv
    refine .inl ⟨a, vs, rfl, .inl (SqL.of h1), ?_⟩
    rw [h2.length]
    exact k _ B H (.old (.int _))
/-- list(x), tuple(x) -/
def listD : D → Option Vw
  | .lst ds => some (.fr ds)
  | .tup ds => some (.fr ds)
  | _ => none
def tupleD : D → Option Vw
  | .lst ds => some (.dat (.tup ds))
  | .tup ds => some (.dat (.tup ds))
  | _ => none
theorem ro_list : RO1 K (fun v H Q => ∃ p ys, [v] = [V.ref p] ∧ (SqL K H p ys ∨ SqT K H p ys) ∧ ∀ l, H l = none → Q (.ref l) (upd H l (.lst ys))) listD := by
  intro B H x d w e p q Q k
  cases d <;> simp only [listD, reduceCtorEq] at q
  case tup ds =>
    cases q
    obtain ⟨a, vs, rfl, h1, _, h2⟩ := p.tup_inv e
    exact ⟨a, vs, rfl, .inr h1, fun l n => k _ B _ (.list n h2)⟩
  case lst ds =>
    cases q
    obtain ⟨a, vs, rfl, h1, h2⟩ := p.lst_inv
    exact ⟨a, vs, rfl, .inl (SqL.of h1), fun l n => k _ B _ (.list n h2)⟩
theorem ro_tuple : RO1 K (fun v H Q => ∃ p ys, [v] = [V.ref p] ∧ ((SqL K H p ys ∧ ∀ l, H l = none → Q (.ref l) (upd H l (.tup ys))) ∨ (SqT K H p ys ∧ Q (.ref p) H))) tupleD := by
  intro B H x d w e p q Q k
  cases d <;> simp only [tupleD, reduceCtorEq] at q
  case tup ds =>
    cases q
    obtain ⟨a, vs, rfl, h1, h3, h2⟩ := p.tup_inv e
    exact ⟨a, vs, rfl, .inr ⟨h1, k _ B H (.old (.tup h3 h2))⟩⟩
  case lst ds =>
    cases q
    obtain ⟨a, vs, rfl, h1, h2⟩ := p.lst_inv
    exact ⟨a, vs, rfl, .inl ⟨SqL.of h1, fun l n => k _ _ _ (.data n (.tup (SqT.of upd_same) (h2.mono (Ex.new (bn e n)))))⟩⟩
/-- sum, all of a list -/
def sumD : D → Option Vw
  | .lst ds => (intsOf ds).map fun ns => .dat (.int ns.sum)
  | _ => none
theorem ro_sum : RO1 K (fun v H Q => rSum K [v] H Q) sumD := by
  intro B H x d w e p q Q k
  cases d <;> simp only [sumD, reduceCtorEq, Option.map_eq_some_iff] at q
  obtain ⟨ns, h, rfl⟩ := q
  obtain ⟨a, vs, rfl, h1, h2⟩ := p.lst_inv
  rw [intsOf_eq h] at h2
  have z := ints_dq h2
  subst z
  exact ⟨a, ns, rfl, SqL.of h1, k _ B H (.old (.int _))⟩
def blsOf : List D → Option (List Bool)
  | [] => some []
  | .bl i :: r => (blsOf r).map (i :: ·)
  | _ :: _ => none
theorem blsOf_dq {B : Hp} : ∀ {ds : List D} {bs : List Bool} {vs : List V}, blsOf ds = some bs → DqAll K B vs ds → vs = bs.map V.bl
  | [], bs, vs, h, q => by cases h; cases q; rfl
  | .bl i :: r, bs, vs, h, q => by
    simp only [blsOf, Option.map_eq_some_iff] at h
    obtain ⟨ms, h1, rfl⟩ := h
    cases q with
    | cons a b =>
      cases a
      rw [blsOf_dq h1 b]
      rfl
  | .non :: _, _, _, h, _ => by simp [blsOf] at h
  | .int _ :: _, _, _, h, _ => by simp [blsOf] at h
  | .str _ :: _, _, _, h, _ => by simp [blsOf] at h
  | .tup _ :: _, _, _, h, _ => by simp [blsOf] at h
  | .lst _ :: _, _, _, h, _ => by simp [blsOf] at h
  | .obj _ _ :: _, _, _, h, _ => by simp [blsOf] at h
  | .exc _ _ :: _, _, _, h, _ => by simp [blsOf] at h
  | .scr _ :: _, _, _, h, _ => by simp [blsOf] at h
def allD : D → Option Vw
  | .lst ds => (blsOf ds).map fun bs => .dat (.bl (bs.all id))
  | _ => none
theorem ro_all : RO1 K (fun v H Q => rAll K [v] H Q) allD := by
  intro B H x d w e p q Q k
  cases d <;> simp only [allD, reduceCtorEq, Option.map_eq_some_iff] at q
  obtain ⟨bs, h, rfl⟩ := q
  obtain ⟨a, vs, rfl, h1, h2⟩ := p.lst_inv
  have z := blsOf_dq h h2
  subst z
  exact ⟨a, bs, rfl, SqL.of h1, k _ B H (.old (.bl _))⟩
/-- sorted of a list of ints: told by what it is -/
def insI (x : Int) : List Int → List Int
  | [] => [x]
  | y :: r => if x ≤ y then x :: y :: r else y :: insI x r
def sortI : List Int → List Int
  | [] => []
  | x :: r => insI x (sortI r)
theorem insI_perm (x : Int) : ∀ l : List Int, (insI x l).Perm (x :: l)
  | [] => .refl _
  | y :: r => by
    unfold insI
    split
    · exact .refl _
    · exact ((insI_perm x r).cons y).trans (.swap x y r)
theorem sortI_perm : ∀ l : List Int, (sortI l).Perm l
  | [] => .refl _
  | x :: r => (insI_perm x _).trans ((sortI_perm r).cons x)
theorem insI_sorted (x : Int) : ∀ l : List Int, l.Pairwise (· ≤ ·) → (insI x l).Pairwise (· ≤ ·)
  | [], _ => List.pairwise_singleton _ _
  | y :: r, h => by
    unfold insI
    have h1 := List.pairwise_cons.mp h
    split
    · rename_i z
      refine List.pairwise_cons.mpr ⟨fun a ha => ?_, h⟩
      rcases List.mem_cons.mp ha with e | e
      · rw [e]; exact z
      · exact Int.le_trans z (h1.1 a e)
    · rename_i z
      refine List.pairwise_cons.mpr ⟨fun a ha => ?_, insI_sorted x r h1.2⟩
      rcases List.mem_cons.mp ((insI_perm x r).mem_iff.mp ha) with e | e
      · rw [e]; omega
      · exact h1.1 a e
theorem sortI_sorted : ∀ l : List Int, (sortI l).Pairwise (· ≤ ·)
  | [] => .nil
  | x :: r => insI_sorted x _ (sortI_sorted r)
theorem sorted_uniq : ∀ {l m : List Int}, l.Perm m → l.Pairwise (· ≤ ·) → m.Pairwise (· ≤ ·) → l = m
  | [], m, p, _, _ => (List.perm_nil.mp p.symm).symm
  | x :: l, [], p, _, _ => List.perm_nil.mp p
  | x :: l, y :: m, p, h1, h2 => by
    have a := List.pairwise_cons.mp h1
    have b := List.pairwise_cons.mp h2
    have e : x = y := by
      have h3 : y ∈ x :: l := p.mem_iff.mpr List.mem_cons_self
      have h4 : x ∈ y :: m := p.mem_iff.mp List.mem_cons_self
      have h5 : x ≤ y := (List.mem_cons.mp h3).elim (fun z => by rw [z]; exact Int.le_refl _) (a.1 y)
      have h6 : y ≤ x := (List.mem_cons.mp h4).elim (fun z => by rw [z]; exact Int.le_refl _) (b.1 x)
      omega
    subst e
    rw [sorted_uniq (List.Perm.cons_inv p) a.2 b.2]
def sortedD : D → Option Vw
  | .lst ds => (intsOf ds).map fun ns => .fr ((sortI ns).map .int)
  | _ => none
theorem ro_sorted : RO1 K (fun v H Q => rSortedI K [v] H Q) sortedD := by
  intro B H x d w e p q Q k
  cases d <;> simp only [sortedD, reduceCtorEq, Option.map_eq_some_iff] at q
  obtain ⟨ns, h, rfl⟩ := q
  obtain ⟨a, vs, rfl, h1, h2⟩ := p.lst_inv
  rw [intsOf_eq h] at h2
  have z := ints_dq h2
  subst z
  refine ⟨a, ns, rfl, SqL.of h1, fun ns' p' hp hs n => ?_⟩
  have ez : ns' = sortI ns := sorted_uniq (hp.trans (sortI_perm ns).symm) hs (sortI_sorted ns)
  subst ez
  exact k _ B _ (.list n (dq_ints _))
/-- abs, int, min, max, divmod -/
def absD : D → Option Vw
  | .int i => some (.dat (.int (if i < 0 then -i else i)))
  | _ => none
theorem ro_abs : RO1 K (fun v H Q => ∃ i, [v] = [V.int i] ∧ Q (.int (if i < 0 then -i else i)) H) absD := by
  intro B H x d w e p q Q k
  cases d <;> simp only [absD, reduceCtorEq] at q
  cases q
  rw [p.int_inv]
  exact ⟨_, rfl, k _ B H (.old (.int _))⟩
def intD : D → Option Vw
  | .int i => some (.dat (.int i))
  | .bl b => some (.dat (.int (if b then 1 else 0)))
  | _ => none
theorem ro_int1 : RO1 K (fun v H Q => (∃ i, [v] = [V.int i] ∧ Q (.int i) H) ∨ ∃ k, [v] = [V.bl k] ∧ Q (.int (if k then 1 else 0)) H) intD := by
  intro B H x d w e p q Q k
  cases d <;> simp only [intD, reduceCtorEq] at q
  · cases q
    rw [p.bl_inv]
    exact .inr ⟨_, rfl, k _ B H (.old (.int _))⟩
  · cases q
    rw [p.int_inv]
    exact .inl ⟨_, rfl, k _ B H (.old (.int _))⟩
def max2D : D → D → Option Vw := iop fun i j => .int (if j > i then j else i)
def min2D : D → D → Option Vw := iop fun i j => .int (if j < i then j else i)
theorem ro_max2 : RO2 K (fun v u H Q => ∃ i j, [v, u] = [V.int i, V.int j] ∧ Q (.int (if j > i then j else i)) H) max2D := by
  intro B H x y d1 d2 w e p1 p2 q Q k
  cases d1 <;> cases d2 <;> simp only [max2D, iop, reduceCtorEq] at q
  cases q
  rw [p1.int_inv, p2.int_inv]
  exact ⟨_, _, rfl, k _ B H (.old (.int _))⟩
theorem ro_min2 : RO2 K (fun v u H Q => ∃ i j, [v, u] = [V.int i, V.int j] ∧ Q (.int (if j < i then j else i)) H) min2D := by
  intro B H x y d1 d2 w e p1 p2 q Q k
  cases d1 <;> cases d2 <;> simp only [min2D, iop, reduceCtorEq] at q
  cases q
  rw [p1.int_inv, p2.int_inv]
  exact ⟨_, _, rfl, k _ B H (.old (.int _))⟩
def gcdD : D → D → Option Vw := iop fun i j => .int (Nat.gcd i.natAbs j.natAbs : Nat)
theorem ro_gcd : RO2 K (fun v u H Q => rGcd [v, u] H Q) gcdD := by
  intro B H x y d1 d2 w e p1 p2 q Q k
  cases d1 <;> cases d2 <;> simp only [gcdD, iop, reduceCtorEq] at q
  cases q
  rw [p1.int_inv, p2.int_inv]
  exact ⟨_, _, rfl, k _ B H (.old (.int _))⟩
/-- lcm, factorial of small ints -/
def rLcm : List V → Hp → VK → Prop := fun vs H Q => ∃ a b : Int, vs = [.int a, .int b] ∧ (0 < a ∧ a < 2 ^ 60 ∧ 0 < b ∧ b < 2 ^ 60) ∧ Q (.int ((Nat.lcm a.natAbs b.natAbs : Nat) : Int)) H
theorem cr_lcm : CallR X (.builtin "math.lcm") rLcm := by
  intro pins s σ H vs us Q I r ⟨a, b, e, ⟨h1, h2, h3, h4⟩, q⟩
  subst e
  obtain ⟨t, u, rfl⟩ := Vals.int2 r
  have ez : Nat.lcm (Nat.lcm 1 a.natAbs) b.natAbs = Nat.lcm a.natAbs b.natAbs := by rw [Nat.lcm_one_left]
  have hb : Nat.lcm a.natAbs b.natAbs ≤ a.natAbs * b.natAbs := Nat.le_of_dvd (Nat.mul_pos (by omega) (by omega)) (Nat.lcm_dvd_mul _ _)
  have hm : a.natAbs * b.natAbs < 2 ^ 60 * 2 ^ 60 := Nat.mul_lt_mul'' (by omega) (by omega)
  have h2p : (2 : Nat) ^ 60 * 2 ^ 60 = 2 ^ 120 := by decide
  refine PySem.W.mg_lcm (by omega) (by omega) ?_ ?_
  · rw [ez, Int.natAbs_natCast]
    refine Nat.lt_of_lt_of_le (PySem.Flt.log2_lt_of (k := 120) (by decide) (by omega)) (by decide)
  · rw [ez]
    exact ⟨.int _, H, I.tok _, ⟨_, rfl⟩, q⟩
def lcmD : D → D → Option Vw := iopC (fun a b => 0 < a ∧ a < 2 ^ 60 ∧ 0 < b ∧ b < 2 ^ 60) fun a b => .int (Nat.lcm a.natAbs b.natAbs : Nat)
theorem ro_lcm : RO2 K (fun v u H Q => rLcm [v, u] H Q) lcmD := by
  intro B H x y d1 d2 w e p1 p2 q Q k
  cases d1 <;> cases d2 <;> simp only [lcmD, iopC, reduceCtorEq] at q
  split at q
  · rename_i z
    cases q
    rw [p1.int_inv, p2.int_inv]
    exact ⟨_, _, rfl, z, k _ B H (.old (.int _))⟩
  · cases q
/-- isinstance(x, T), T a built-in type -/
def tyD : D → Option String
  | .non => some "NoneType"
  | .bl _ => some "bool"
  | .int _ => some "int"
  | .str _ => some "str"
  | .tup _ => some "tuple"
  | .lst _ => some "list"
  | .obj _ _ => none
  | .exc _ _ => none
  | .scr _ => none
theorem ty_ok {B H : Hp} {v : V} {d : D} {T : String} (e : Ex B H) (p : Pk K B H v d) (h : tyD d = some T) : TyX K H v (.type T) := by
  cases d <;> simp only [tyD, reduceCtorEq, Option.some.injEq] at h <;> subst h
  · rw [p.non_inv]; exact .base .non
  · rw [p.bl_inv]; exact .base (.bl _)
  · rw [p.int_inv]; exact .base (.int _)
  · rw [p.str_inv]; exact .base (.str _)
  · obtain ⟨a, vs, rfl, h1, _, h2⟩ := p.tup_inv e
    rcases h1 with (h | ⟨o, h⟩) | ⟨o, its, n, h, hc, _⟩
    · exact .base (.tup h)
    · exact .fTuple h
    · exact .kTuple h hc
  · obtain ⟨a, vs, rfl, h1, h2⟩ := p.lst_inv
    exact .base (.lst h1)
def isiD (T : String) (d : D) : Option Vw := (tyD d).bind fun a => (kitB a T).map fun b => .dat (.bl b)
theorem ro_isi {T : String} : RO1 K (fun v H Q => rIsi K [v, .ty T] H Q) (isiD T) := by
  intro B H x d w e p q Q k
  unfold isiD at q
  cases h : tyD d with
  | none => rw [h] at q; cases q
  | some a =>
    rw [h] at q
    simp only [Option.bind_some, Option.map_eq_some_iff] at q
    obtain ⟨b, h1, rfl⟩ := q
    exact ⟨x, .ty T, .type a, .type T, b, rfl, .ty T, ty_ok e p h, kit_ty h1, k _ B H (.old (.bl _))⟩
end
section
variable {X : Cx} {c : Cc} {E : XS} {pos p p2 : Pos} {a : Expr} {sa : SE}
theorem je_isi {T : String} {x : Str} (hm : X.mg "isinstance" = none) (hmT : X.mg x = none) (hT : bootBuiltins x = some (.type T)) (ha : JE X c E a sa) (hg : Gl X "isinstance" := by rfl) (hgT : Gl X x := by rfl) (hn : x ≠ "__name__" := by decide) (hdb : (x == ("__debug__" : Str)) = false := by decide)
    (hs : starEach [a, .Name x p2] X.env = (false, eval a X.env) :: starEach [.Name x p2] X.env := by rfl) (hs2 : starEach [.Name x p2] X.env = (false, eval (.Name x p2) X.env) :: starEach [] X.env := by rfl) (hpl : (backTo pos (starEach [.Name x p2] X.env)).any (·.1) = false := by rfl) : JE X c E (.Call (.Name "isinstance" p) [a, .Name x p2] [] pos) (sOp1 (isiD T) sa) :=
  pe_imp (pe_callB call_isi hg hm (by decide +kernel) (pa_cons ha (pa_cons (pe_bltn (v := .ty T) hgT hmT hT rfl hn hdb) pa_nil hs2) hs) (by decide) (by decide) hs hpl) fun _ _ _ q => op1_run ro_isi q
/-! ### repr -/
def reprD (d : D) : Option Vw := match d with
  | .lst _ => (d.py).bind fun p => if PyData.showable p = true ∧ PyData.hasDict p = false ∧ p.depth ≤ 60 ∧ p.shown.length ≤ line then some (.dat (.str p.shown)) else none
  | .tup _ => (d.py).bind fun p => if PyData.showable p = true ∧ PyData.hasDict p = false ∧ p.depth ≤ 60 ∧ p.shown.length ≤ line then some (.dat (.str p.shown)) else none
  | _ => none
def rRepr (K : PySem.W.Frag) : List V → Hp → VK → Prop := fun vs H Q => ∃ a p, vs = [.ref a] ∧ Dp K H (.ref a) p ∧ PyData.showable p = true ∧ PyData.hasDict p = false ∧ p.depth ≤ 60 ∧ p.shown.length ≤ line ∧ Q (.str p.shown) H
theorem cr_repr (hu : X.A.units + 64 < cLine) (hgd : X.A.guards = some []) : CallR X (.builtin "repr") (rRepr X.K) := by
  intro pins s σ H vs us Q I r ⟨a, p, e, dp, h1, h2, h3, h4, q⟩
  subst e
  obtain ⟨u, rfl, ru⟩ := vals1 r
  cases ru
  obtain ⟨as, rd⟩ := Dp.reads I p _ _ dp rfl
  exact repr_of_reads' rd h1 (fun z => by rw [h2] at z; cases z) hgd (by omega) (fun _ _ z => z) (fun h' u tk hk => ⟨.str p.shown, H, I.kept hk, ⟨_, rfl⟩, q⟩) (line_ok h4)
theorem ro_repr {K : PySem.W.Frag} : RO1 K (fun v H Q => rRepr K [v] H Q) reprD := by
  intro B H x d w e p q Q k
  cases d <;> simp only [reprD, reduceCtorEq, Option.bind_eq_some_iff] at q
  · obtain ⟨pd, h, q⟩ := q
    split at q
    · rename_i z
      cases q
      have dp := (p.dq e).dp h
      obtain ⟨a, vs, rfl, _⟩ := p.tup_inv e
      exact ⟨a, pd, rfl, dp, z.1, z.2.1, z.2.2.1, z.2.2.2, k _ B H (.old (.str _))⟩
    · cases q
  · obtain ⟨pd, h, q⟩ := q
    split at q
    · rename_i z
      cases q
      have dp := (p.dq e).dp h
      obtain ⟨a, vs, rfl, _⟩ := p.lst_inv
      exact ⟨a, pd, rfl, dp, z.1, z.2.1, z.2.2.1, z.2.2.2, k _ B H (.old (.str _))⟩
    · cases q
end
end Eng

namespace Eng
open PySem PySem.Spec PyProof.Rows L2 Evl
variable [Tb]

/-! ### parts of lists, tuples, texts -/
abbrev SO := S → Res (Option Int)
def sNoP : SO := fun s => .ok none s
def sPart (se : SE) : SO := fun s => (se s).bind fun w s1 => match w with
  | .dat (.int i) => .ok (some i) s1
  | _ => .bad
section
variable (K : PySem.W.Frag) (c : Cc) (E : XS) (B0 H0 : Hp) (σ : L2.St) (s0 : S)
def PostO (r : Res (Option Int)) (Q : Option Int → Hp → Prop) : Prop := match r with
  | .ok o s' => ∀ B' H', Aft K c B0 H0 σ s0 B' H' s' → Q o H'
  | .exc x s' => XPost K c E B0 H0 σ s0 x s'
  | .bad => False
end
def trO (K : PySem.W.Frag) (c : Cc) (E : XS) (so : SO) : TO := fun σ H Q => ∃ B s, Sim K c B H σ s ∧ PostO K c E B H σ s (so s) Q
abbrev JO (X : Cx) (c : Cc) (E : XS) (e : Option Expr) (so : SO) : Prop := PO X e (trO X.K c E so)
section
variable {K : PySem.W.Frag} {c : Cc} {E : XS} {B H B0 H0 : Hp} {σ : L2.St} {s s0 : S} {Q : VK}
theorem po_imp {X : Cx} {e : Option Expr} {t t' : TO} (h : PO X e t) (i : ∀ σ H Q, t' σ H Q → t σ H Q) : PO X e t' := ⟨fun pins s σ H Q I q => h.run pins s σ H Q I (i σ H Q q)⟩
theorem bindO {α : Type} {so : SO} {k : Option Int → S → Res α} {P : Res α → Prop} (A : Aft K c B0 H0 σ s0 B H s) (h : P ((so s).bind k)) (hx : ∀ x s', P (.exc x s') → XPost K c E B0 H0 σ s0 x s') (hb : ¬ P .bad) :
    trO K c E so σ H fun b H1 => ∃ B1 s1, Aft K c B0 H0 σ s0 B1 H1 s1 ∧ Aft K c B H σ s B1 H1 s1 ∧ P (k b s1) := by
  refine ⟨B, s, A.si, ?_⟩
  cases e : so s with
  | ok b s1 =>
    rw [e] at h
    exact fun B' H' A' => ⟨B', s1, A.trans A', A', h⟩
  | exc x s1 =>
    rw [e] at h
    exact (hx x s1 h).more A
  | bad =>
    rw [e] at h
    exact absurd h hb
theorem trO_mono {so : SO} {Q Q' : Option Int → Hp → Prop} (h : trO K c E so σ H Q) (q : ∀ v H', Q v H' → Q' v H') : trO K c E so σ H Q' := by
  obtain ⟨B, s, I, h⟩ := h
  refine ⟨B, s, I, ?_⟩
  revert h
  unfold PostO
  cases so s with
  | ok w s' => exact fun h B' H' A => q _ _ (h B' H' A)
  | exc x s' => exact fun h => h
  | bad => exact fun h => h
theorem jo_none {X : Cx} : JO X c E none sNoP := po_imp po_none fun σ H Q ⟨B, s, I, q⟩ => q B H (.refl I)
theorem jo_some {X : Cx} {e : Expr} {se : SE} (h : JE X c E e se) : JO X c E (some e) (sPart se) := po_imp (po_some h) fun σ H Q ⟨B, s, I, q⟩ => by
  refine trE_mono (bindE (P := fun r => PostO X.K c E B H σ s r Q) (.refl I) q (fun _ _ q => q) id) fun x H1 ⟨B1, s1, w, A1, A1', V1, N1, q1⟩ => ?_
  cases w with
  | dat d =>
    cases d with
    | int i =>
      cases V1
      exact ⟨i, rfl, q1 B1 H1 A1⟩
    | _ => exact q1.elim
  | _ => exact q1.elim
def cutL {α : Type} (xs : List α) (lo hi : Option Int) : List α := (xs.drop (HT.sIx xs.length 0 lo)).take (HT.sIx xs.length xs.length hi - HT.sIx xs.length 0 lo)
def slD (d : D) (lo hi : Option Int) : Option Vw := match d with
  | .lst ds => some (.fr (cutL ds lo hi))
  | .tup ds => some (.dat (.tup (cutL ds lo hi)))
  | .scr ns => some (.fr ((cutL ns lo hi).map .int))
  | .str z => if z.length ≤ line then some (.dat (.str (cutS z lo hi))) else none
  | _ => none
def rSlU (K : PySem.W.Frag) : V → Option Int → Option Int → Hp → VK → Prop := fun x lo hi H Q => rSlL K x lo hi H Q ∨ (rSlA K x lo hi H Q ∨ rSlS x lo hi H Q)
theorem sl_u {X : Cx} : SlR X (rSlU X.K) := SlR.or sl_list (SlR.or sl_tupA sl_str)
theorem DqAll.cut {ds : List D} {vs : List V} (h : DqAll K H vs ds) (lo hi : Option Int) : DqAll K H (cutV vs lo hi) (cutL ds lo hi) := by
  unfold cutV cutL
  rw [h.length]
  exact (h.drop _).take _
theorem ro_sl {x : V} {d : D} {lo hi : Option Int} {w : Vw} (e : Ex B H) (p : Pk K B H x d) (q : slD d lo hi = some w) (k : ∀ v B' H', Made K B H B' H' v w → Q v H') : rSlU K x lo hi H Q := by
  cases d <;> simp only [slD, reduceCtorEq] at q
  case lst ds =>
    cases q
    obtain ⟨a, vs, rfl, h1, h2⟩ := p.lst_inv
    exact .inl ⟨a, vs, rfl, SqL.of h1, fun l n => k _ B _ (.list n (h2.cut lo hi))⟩
  case scr ns =>
    cases q
    cases p with
    | scr h1 =>
      refine .inl ⟨_, _, rfl, ex_l e h1, fun l n => ?_⟩
      have ec : cutV (ns.map V.int) lo hi = (cutL ns lo hi).map V.int := by
        unfold cutV cutL
        rw [List.length_map, List.map_take, List.map_drop]
      rw [ec]
      exact k _ B _ (.list n (dq_ints _))
  case tup ds =>
    cases q
    obtain ⟨a, vs, rfl, h1, h3, h2⟩ := p.tup_inv e
    refine .inr (.inl ⟨a, vs, rfl, h1, fun z => ?_, fun _ l n => k _ _ _ (.data n (.tup (SqT.of upd_same) ((h2.cut lo hi).mono (Ex.new (bn e n)))))⟩)
    have hc : cutL ds lo hi = ds := by
      unfold cutL
      rw [← h2.length, z.1, z.2, List.drop_zero, Nat.sub_zero, h2.length, List.take_length]
    rw [hc] at k
    exact k _ B H (.old (.tup h3 h2))
  case str z =>
    split at q
    · rename_i hz
      cases q
      rw [p.str_inv]
      exact .inr (.inr ⟨z, rfl, line_ok hz, k _ B H (.old (.str _))⟩)
    · cases q
def sSl (se : SE) (so sh : SO) : SE := fun s => (se s).bind fun w s1 => (so s1).bind fun lo s2 => (sh s2).bind fun hi s3 => match peek w s3 with
  | some d => (match slD d lo hi with
    | some r => .ok r s3
    | none => .bad)
  | none => .bad
theorem je_sl {X : Cx} {e : Expr} {lo hi : Option Expr} {se : SE} {so sh : SO} {p2 pos : Pos} (he : JE X c E e se) (hl : JO X c E lo so) (hu : JO X c E hi sh) : JE X c E (.Subscript e (.Slice lo hi none p2) pos) (sSl se so sh) :=
  pe_imp (pe_slice sl_u he hl hu) fun σ H Q q => by
    obtain ⟨B, s, I, q⟩ := of_tr q
    refine trE_mono (bindEP (.refl I) q) fun x H1 ⟨B1, s1, w, A1, A1', V1, N1, q1⟩ => ?_
    refine trO_mono (bindO (P := fun r => Post X.K c E B H σ s r Q) A1 q1 (fun _ _ q => q) id) fun l H2 ⟨B2, s2, A2, A2', q2⟩ => ?_
    refine trO_mono (bindO (P := fun r => Post X.K c E B H σ s r Q) A2 q2 (fun _ _ q => q) id) fun u H3 ⟨B3, s3, A3, A3', q3⟩ => ?_
    have V3 := A3'.vw (A2'.vw V1)
    cases e1 : peek w s3 with
    | none => simp only [e1] at q3; exact q3.elim
    | some d =>
      simp only [e1] at q3
      cases e2 : slD d l u with
      | none => simp only [e2] at q3; exact q3.elim
      | some r =>
        simp only [e2] at q3
        refine ro_sl A3.si.ex (peek_ok A3.si V3 e1) e2 fun v B' H' m => ?_
        obtain ⟨a, b, n⟩ := m.aft A3
        exact q3 v B' H' a b n
/-- turned over -/
def revD : D → Option Vw
  | .lst ds => some (.fr ds.reverse)
  | _ => none
theorem je_rev {X : Cx} {e : Expr} {se : SE} {k : Nat} {p1 p2 p3 pos : Pos} (he : JE X c E e se) : JE X c E (.Subscript e (.Slice none none (some (.UnaryOp .USub (.Constant (.int 1) k p1) p2)) p3) pos) (sOp1 revD se) :=
  pe_imp (pe_revL he) fun σ H Q q => op1_run (r := fun x H1 Q => ∃ a xs, x = V.ref a ∧ SqL X.K H1 a xs ∧ ∀ p, H1 p = none → Q (.ref p) (upd H1 p (.lst xs.reverse))) (fun B H x d w e p z Q k => by
    cases d <;> simp only [revD, reduceCtorEq] at z
    cases z
    obtain ⟨a, vs, rfl, h1, h2⟩ := p.lst_inv
    exact ⟨a, vs, rfl, SqL.of h1, fun l n => k _ B _ (.list n h2.reverse)⟩) q
/-! ### a op b op c -/
def sCh (f g : D → D → Option Vw) (sa sb sc : SE) : SE := fun s => (sa s).bind fun w1 s1 => (sb s1).bind fun w2 s2 => match peek w1 s2, peek w2 s2 with
  | some d1, some d2 => (match f d1 d2 with
    | some (.dat (.bl true)) => (sc s2).bind fun w3 s3 => (match peek w2 s3, peek w3 s3 with
      | some d2', some d3 => (match g d2' d3 with
        | some r => .ok r s3
        | none => .bad)
      | _, _ => .bad)
    | some (.dat (.bl false)) => .ok (.dat (.bl false)) s2
    | _ => .bad)
  | _, _ => .bad
theorem chain_run {r r' : R2} {f g : D → D → Option Vw} {sa sb sc : SE} (h : RO2 K r f) (h' : RO2 K r' g) (q : trE K c E (sCh f g sa sb sc) σ H Q) : tChain r r' (trE K c E sa) (trE K c E sb) (trE K c E sc) σ H Q := by
  obtain ⟨B, s, I, q⟩ := of_tr q
  refine trE_mono (bindEP (.refl I) q) fun x H1 ⟨B1, s1, w1, A1, A1', V1, N1, q1⟩ => ?_
  refine trE_mono (bindEP A1 q1) fun y H2 ⟨B2, s2, w2, A2, A2', V2, N2, q2⟩ => ?_
  have V1' := A2'.vw V1
  cases e1 : peek w1 s2 with
  | none => simp only [e1] at q2; exact q2.elim
  | some d1 =>
    cases e2 : peek w2 s2 with
    | none => simp only [e1, e2] at q2; exact q2.elim
    | some d2 =>
      simp only [e1, e2] at q2
      cases e3 : f d1 d2 with
      | none => simp only [e3] at q2; exact q2.elim
      | some w =>
        refine h B2 H2 x y d1 d2 w A2.si.ex (peek_ok A2.si V1' e1) (peek_ok A2.si V2 e2) e3 _ fun v B' H' m => ?_
        cases w with
        | dat d =>
          cases d with
          | bl b =>
            obtain ⟨A3, V3, n3⟩ := m.aft A2
            have hv : v = .bl b := by cases V3; rfl
            have A3' := (m.aft (.refl A2.si)).1
            subst hv
            refine ⟨b, rfl, ?_⟩
            cases b with
            | false =>
              simp only [e3] at q2
              rw [if_neg (by decide)]
              exact q2 _ B' H' A3 V3 n3
            | true =>
              simp only [e3] at q2
              rw [if_pos rfl]
              refine trE_mono (bindEP A3 q2) fun w' H4 ⟨B4, s4, w3, A4, A4', V4, N4, q4⟩ => ?_
              have V2' := A4'.vw (A3'.vw V2)
              cases e4 : peek w2 s4 with
              | none => simp only [e4] at q4; exact q4.elim
              | some d2' =>
                cases e5 : peek w3 s4 with
                | none => simp only [e4, e5] at q4; exact q4.elim
                | some d3 =>
                  simp only [e4, e5] at q4
                  cases e6 : g d2' d3 with
                  | none => simp only [e6] at q4; exact q4.elim
                  | some w5 =>
                    simp only [e6] at q4
                    refine h' B4 H4 y w' d2' d3 w5 A4.si.ex (peek_ok A4.si V2' e4) (peek_ok A4.si V4 e5) e6 Q fun v B' H' m => ?_
                    obtain ⟨a, b, n⟩ := m.aft A4
                    exact q4 v B' H' a b n
          | _ => simp only [e3] at q2; exact q2.elim
        | _ => simp only [e3] at q2; exact q2.elim
theorem je_chain {X : Cx} {op op' : CmpOp} {r r' : R2} {f g : D → D → Option Vw} {a b d : Expr} {sa sb sd : SE} {pos : Pos} (ho : OpR X (compareOp op) r) (h : RO2 X.K r f) (ho' : OpR X (compareOp op') r') (h' : RO2 X.K r' g) (ha : JE X c E a sa) (hb : JE X c E b sb) (hd : JE X c E d sd)
    (hm : lastMarks [op, op'] [b, d] = false := by with_unfolding_all rfl) : JE X c E (.Compare a [op, op'] [b, d] pos) (sCh f g sa sb sd) := pe_imp (pe_chain ho ho' ha hb hd hm) fun _ _ _ q => chain_run h h' q
theorem jt_chain {X : Cx} {op op' : CmpOp} {r r' : R2} {f g : D → D → Option Vw} {a b d : Expr} {sa sb sd : SE} {pos : Pos} (ho : OpR X (compareOp op) r) (h : RO2 X.K r f) (ho' : OpR X (compareOp op') r') (h' : RO2 X.K r' g) (ha : JE X c E a sa) (hb : JE X c E b sb) (hd : JE X c E d sd)
    (hm : lastMarks [op, op'] [b, d] = false := by with_unfolding_all rfl) : JT X c E (.Compare a [op, op'] [b, d] pos) (sB (sCh f g sa sb sd)) := pt_imp (pt_chain ho ho' ha hb hd hm) fun σ H Q q => by
  exact chain_run h h' (tB_run q)
/-- put in at a place -/
def fIns2 (ds as : List D) : Option (D × List D) := match as with
  | [.int i, d] => if 0 ≤ i ∧ i < 2 ^ 63 ∧ ds.length < line then some (.non, ds.take i.toNat ++ [d] ++ ds.drop i.toNat) else none
  | _ => none
theorem rm_ins : RMut K (fun x vs H Q => ∃ (l : Addr) (xs : List V) (i : Int) (y : V), x = .ref l ∧ vs = [.int i, y] ∧ H l = some (.lst xs) ∧ xs.length < sizeLine ∧ 0 ≤ i ∧ i < 2 ^ 63 ∧ Q .non (upd H l (.lst (xs.take i.toNat ++ [y] ++ xs.drop i.toNat)))) fIns2 := by
  intro B H a vs ys ds as es x e h dq da hf Q k
  unfold fIns2 at hf
  split at hf
  · split at hf
    · rename_i z
      cases hf
      cases da with
      | cons h1 da =>
        cases da with
        | cons h2 da =>
          cases da
          cases h1
          exact ⟨a, vs, _, _, rfl, rfl, h, line_lt (by rw [dq.length]; exact z.2.2), z.1, z.2.1, k _ _ .non (((dq.take _).append (.one h2)).append (dq.drop _))⟩
    · cases hf
  · cases hf
end
/-! ### range, downward -/
section
variable {X : Cx} {c : Cc} {E : XS} {pos : Pos} {tg : Expr}
end
end Eng

namespace Eng
open PySem PySem.Spec PyProof.Rows L2 Evl
variable [Tb]

section
variable {X : Cx} {c : Cc} {E : XS} {pos : Pos} {tg : Expr}
theorem ji_range3 {a b d : Expr} {sa : SA} {p : Pos} (hm : X.mg "range" = none) (ha : JA X c E [a, b, d] sa) (hg : Gl X "range" := by rfl) (hs : starEach [a, b, d] X.env = (false, eval a X.env) :: starEach [b, d] X.env := by rfl) (hpl : (backTo pos (starEach [b, d] X.env)).any (·.1) = false := by rfl) :
    JI X c E tg (.Call (.Name "range" p) [a, b, d] [] pos) (siRange3 sa) :=
  pi_imp (pi_range3 hg hm ha hs hpl) fun σ H R ⟨B, s, I, q⟩ => by
    refine trA_mono (bindA (P := fun r => PostI X.K c E B H σ s r R) (.refl I) q (fun _ _ z => z) id) fun vs H1 ⟨B1, s1, ds, A1, _, dq, q1⟩ => ?_
    split at q1
    · rename_i i j k
      split at q1
      · rename_i z
        obtain ⟨z1, z2, z3, z4, rfl⟩ := z
        cases dq with
        | cons h1 h2 =>
          cases h2 with
          | cons h2 h3 =>
            cases h3 with
            | cons h3 h4 =>
              cases h4
              cases h1
              cases h2
              cases h3
              exact ⟨i, j, -1, _, rfl, RgC.neg z1 z2 z3 z4, q1 _ B1 H1 A1 walk_dn⟩
      · exact q1.elim
    · exact q1.elim
end

/-! ### the cup, looked into and changed -/
def cupL (k : Cup) : List V := [.int k.1, .int k.2.1, .int k.2.2]
def cupAt (k : Cup) : Int → Option Int
  | 0 => some k.1
  | 1 => some k.2.1
  | 2 => some k.2.2
  | _ => none
def cupPut (k : Cup) (v : Int) : Int → Option Cup
  | 0 => some (v, k.2.1, k.2.2)
  | 1 => some (k.1, v, k.2.2)
  | 2 => some (k.1, k.2.1, v)
  | _ => none
def sCupAt (i : Nat) (k : Int) : SE := fun s => match s.env[i]? with
  | some .cup => (match cupAt s.cup k with
    | some v => .ok (.dat (.int v)) s
    | none => .bad)
  | _ => .bad
/-- cup[k] = e -/
def sCupSet (i : Nat) (k : Int) (se : SE) : SS := fun s => (se s).bind fun w s1 => match s1.env[i]?, w with
  | some .cup, .dat (.int v) => (match cupPut s1.cup v k with
    | some cp => .ok .next { s1 with cup := cp }
    | none => .bad)
  | _, _ => .bad
/-- cup[k], x = e -/
def sCupTwo (i j : Nat) (k : Int) (se : SE) : SS := fun s => (se s).bind fun w s1 => match s1.env[i]?, w with
  | some .cup, .dat (.tup [.int v, d]) => (match cupPut s1.cup v k with
    | some cp => .ok .next (setSl { s1 with cup := cp } j (.val d))
    | none => .bad)
  | _, _ => .bad
section
variable {X : Cx} {c : Cc} {E : XS} {pos : Pos} {K : PySem.W.Frag} {B H B0 H0 : Hp} {σ : L2.St} {s s0 : S}
theorem cup_put {a : Addr} (hc0 : c.cup = some a) (I : Sim K c B H σ s) (cp : Cup) : AftS K c B H σ s B (upd H a (cupO cp)) σ { s with cup := cp } := by
  obtain ⟨h1, h2, h3⟩ := I.cu a hc0
  have ne : ∀ b o, B b = some o → b ≠ a := fun b o e z => by
    rw [z, h1] at e
    cases e
  refine ⟨⟨Ex.refl B, fun b o h _ _ k => ?_, fun b o h => .inl (by rw [h]; simp), fun b z => .inl z, fun b o h t => ?_⟩, ⟨fun b o h => ?_, I.len, fun j sl hj => ?_, I.dis, fun b hb => ?_, I.tb.put (.lst h2)⟩⟩
  · rw [upd_ne (fun z => k (by rw [z]; exact hc0))]
    exact h
  · by_cases z : b = a
    · exact ⟨cupO cp, by rw [z, upd_same], by unfold cupO; exact nT_lst⟩
    · exact ⟨o, by rw [upd_ne z]; exact h, t⟩
  · rw [upd_ne (ne b o h)]
    exact I.ex b o h
  · have z := I.slot j sl hj
    cases sl with
    | no => trivial
    | val d => exact z
    | own ds =>
      obtain ⟨b, vs, q1, q2, q3, q4⟩ := z
      exact ⟨b, vs, q1, q2, by rw [upd_ne (fun e => h3 ⟨j, ds, hj, by rw [← e]; exact q1⟩)]; exact q3, q4⟩
    | cup => exact z
    | xcp x => exact z
  · obtain rfl : a = b := Option.some.inj (hc0.symm.trans hb)
    exact ⟨h1, upd_same, h3⟩
theorem cupAt_V {k : Cup} {i v : Int} (h : cupAt k i = some v) : L2.atI (cupL k) i = some (.int v) := by
  unfold cupAt at h
  split at h <;> cases h <;> rfl
theorem cupPut_V {k cp : Cup} {i v : Int} (h : cupPut k v i = some cp) : ∃ j, ixN (cupL k).length i = some j ∧ (cupL k).set j (.int v) = cupL cp := by
  unfold cupPut at h
  split at h <;> cases h
  · exact ⟨0, rfl, rfl⟩
  · exact ⟨1, rfl, rfl⟩
  · exact ⟨2, rfl, rfl⟩
theorem cupAt_run {i : Nat} {k : Int} {Q : VK} {σ : L2.St} {H : Hp} (h : trE K c E (sCupAt i k) σ H Q) : L2.tOp (rIx K) (tVar i) (tC (.int k)) σ H Q := by
  obtain ⟨B, s, I, q⟩ := of_tr h
  unfold sCupAt at q
  cases e : s.env[i]? with
  | none => simp only [e] at q; exact q.elim
  | some sl =>
    cases sl with
    | cup =>
      simp only [e] at q
      obtain ⟨a, hc0, h2⟩ := I.slot i _ e
      obtain ⟨h3, h4, _⟩ := I.cu a hc0
      cases e2 : cupAt s.cup k with
      | none => simp only [e2] at q; exact q.elim
      | some v =>
        simp only [e2] at q
        exact ⟨_, h2, .inl ⟨a, cupL s.cup, k, _, rfl, rfl, SqL.of h4, cupAt_V e2, q _ B H (.refl I) (.int _) trivial⟩⟩
    | no => simp only [e] at q; exact q.elim
    | val d => simp only [e] at q; exact q.elim
    | own ds => simp only [e] at q; exact q.elim
    | xcp x => simp only [e] at q; exact q.elim
theorem je_cupAt (i : Nat) {k : Int} {x : Str} {p p2 : Pos} {j : Nat} (hN : X.N[i]? = some x := by rfl) (hv : Vis X.env.scope x := by first | exact Or.inl rfl | exact Or.inr (Or.inl rfl) | exact Or.inr (Or.inr rfl)) (hd : (x == ("__debug__" : Str)) = false := by decide)
    (hcd : (x == ("__classdict__" : Str)) = false := by decide) (hs : PlainIx (.Constant (.int k) j p2) := by intro _ _; rfl) : JE X c E (.Subscript (.Name x p) (.Constant (.int k) j p2) pos) (sCupAt i k) :=
  pe_imp (pe_ix ix_seq (pe_var hN hv hd hcd) pe_int hs) fun _ _ _ q => cupAt_run q
theorem cupSet_run {i : Nat} {k : Int} {se : SE} {D : Ends} {σ : L2.St} {H : Hp} (h : trS K c E (sCupSet i k se) D σ H) : L2.tAsg (trE K c E se) (gSub (tVar i) (tC (.int k)) rSetL) D σ H := by
  obtain ⟨B, s, I, q⟩ := h
  refine trE_mono (bindES I q) fun x H1 ⟨B1, s1, w, A, V, N, q⟩ => ?_
  cases e : s1.env[i]? with
  | none => simp only [e] at q; exact q.elim
  | some sl =>
    cases sl with
    | cup =>
      cases w with
      | dat d =>
        cases d with
        | int v =>
          simp only [e] at q
          cases V
          cases e2 : cupPut s1.cup v k with
          | none => simp only [e2] at q; exact q.elim
          | some cp =>
            simp only [e2] at q
            obtain ⟨a, hc0, h2⟩ := A.si.slot i _ e
            obtain ⟨h3, h4, _⟩ := A.si.cu a hc0
            obtain ⟨j, h5, h6⟩ := cupPut_V e2
            refine ⟨_, h2, a, cupL s1.cup, k, j, rfl, rfl, h4, h5, ?_⟩
            rw [h6]
            exact q B1 _ σ (A.toS.trans (cup_put hc0 A.si cp))
        | _ => simp only [e] at q; exact q.elim
      | _ => simp only [e] at q; exact q.elim
    | no => simp only [e] at q; exact q.elim
    | val d => simp only [e] at q; exact q.elim
    | own ds => simp only [e] at q; exact q.elim
    | xcp x => simp only [e] at q; exact q.elim
theorem js_cupSet {i : Nat} {k : Int} {se : SE} {st : Stmt} (h : PS X st (L2.tAsg (trE X.K c E se) (gSub (tVar i) (tC (.int k)) rSetL))) : JS X c E st (sCupSet i k se) := ps_imp h fun _ _ _ q => cupSet_run q
theorem cupTwo_run {i j : Nat} {k : Int} {se : SE} {D : Ends} {σ : L2.St} {H : Hp} (h : trS K c E (sCupTwo i j k se) D σ H) : L2.tAsg (trE K c E se) (gTup K 2 (gCons (gSub (tVar i) (tC (.int k)) rSetL) (gCons (gName j) gNil))) D σ H := by
  obtain ⟨B, s, I, q⟩ := h
  refine trE_mono (bindES I q) fun x H1 ⟨B1, s1, w, A, V, N, q⟩ => ?_
  cases e : s1.env[i]? with
  | none => simp only [e] at q; exact q.elim
  | some sl =>
    cases sl with
    | cup =>
      cases w with
      | dat d =>
        unfold sCupTwo at *
        simp only [e] at q
        split at q
        · rename_i v d' _ e1
          cases e1
          cases V with
          | tup ht dq =>
            cases dq with
            | cons d1 dq =>
              cases dq with
              | cons d2 dq =>
                cases dq
                cases d1
                cases e2 : cupPut s1.cup v k with
                | none => simp only [e2] at q; exact q.elim
                | some cp =>
                  simp only [e2] at q
                  obtain ⟨a, hc0, h2⟩ := A.si.slot i _ e
                  obtain ⟨h3, h4, _⟩ := A.si.cu a hc0
                  obtain ⟨j', h5, h6⟩ := cupPut_V e2
                  refine ⟨_, _, rfl, ex_t A.si.ex ht, rfl, _, _, rfl, _, h2, a, cupL s1.cup, k, j', rfl, rfl, h4, h5, ?_⟩
                  rw [h6]
                  have A2 := A.toS.trans (cup_put hc0 A.si cp)
                  exact ⟨_, _, rfl, rfl, q B1 _ _ (A2.trans (set_val (i := j) A2.si d2))⟩
        · exact q.elim
      | _ => simp only [e] at q; exact q.elim
    | no => simp only [e] at q; exact q.elim
    | val d => simp only [e] at q; exact q.elim
    | own ds => simp only [e] at q; exact q.elim
    | xcp x => simp only [e] at q; exact q.elim
theorem js_cupTwo {i j : Nat} {k : Int} {se : SE} {st : Stmt} (h : PS X st (L2.tAsg (trE X.K c E se) (gTup X.K 2 (gCons (gSub (tVar i) (tC (.int k)) rSetL) (gCons (gName j) gNil))))) : JS X c E st (sCupTwo i j k se) := ps_imp h fun _ _ _ q => cupTwo_run q
end
/-! ### divmod -/
def divmodD : D → D → Option Vw := fun a b => match a, b with
  | .int i, .int j => if 0 < j ∧ j < 2 ^ 30 then some (.dat (.tup [.int (i / j), .int (i % j)])) else none
  | _, _ => none
theorem ro_divmod {K : PySem.W.Frag} : RO2 K (fun v u H Q => ∃ i j, [v, u] = [V.int i, V.int j] ∧ CDiv i j ∧ ∀ p, H p = none → Q (.ref p) (upd H p (.tup [.int (i / j), .int (i % j)]))) divmodD := by
  intro B H x y d1 d2 w e p1 p2 q Q k
  cases d1 <;> cases d2 <;> simp only [divmodD, reduceCtorEq] at q
  split at q
  · rename_i z
    cases q
    rw [p1.int_inv, p2.int_inv]
    exact ⟨_, _, rfl, ⟨z.1, by have := z.2; omega⟩, fun p n => k _ _ _ (.data n (.tup (SqT.of upd_same) (.cons (.int _) (.cons (.int _) .nil))))⟩
  · cases q
end Eng

/-! own exceptions: class C(..): def __init__(self, a, ..): super().__init__('..'); self.a = a; .. -/
namespace PySem
namespace EX
open PySem.W PySem.Calls PyProof.Rows PySem.HandSPX

structure BaseF (B newId initId : String) (bmB : List Value) : Prop where
  eb : ExcBaseFacts B newId initId bmB
  sf : StoreFacts B bmB "object.__setattr__" "object"
  kf : KxsFacts B initId
theorem bf_VE : BaseF "ValueError" "ValueError.__new__" "ValueError.__init__" [.type "ValueError", .type "Exception", .type "BaseException", .type "object"] := ⟨F.excBase_ValueError, F.store_ValueError, kxs_ValueError⟩
theorem bf_LE : BaseF "LookupError" "LookupError.__new__" "LookupError.__init__" [.type "LookupError", .type "Exception", .type "BaseException", .type "object"] := ⟨F.excBase_LookupError, F.store_LookupError, kxs_LookupError⟩
theorem bf_AE : BaseF "ArithmeticError" "ArithmeticError.__new__" "ArithmeticError.__init__" [.type "ArithmeticError", .type "Exception", .type "BaseException", .type "object"] := ⟨F.excBase_ArithmeticError, F.store_ArithmeticError, kxs_ArithmeticError⟩

/-! ### the text -/
def storeS (f : Str) (q : Pos × Pos × Pos × Pos) : Stmt := .Assign [.Attribute (.Name "self" q.1) f q.2.1] (.Name f q.2.2.1) q.2.2.2
def storesS : List (Str × Pos × Pos × Pos × Pos) → List Stmt
  | [] => []
  | (f, q) :: r => storeS f q :: storesS r
def superS (txt : Str) (j : Nat) (p0 p1 p2 p3 p4 p5 : Pos) : Stmt := .Expr (.Call (.Attribute (.Call (.Name "super" p0) [] [] p1) "__init__" p2) [.Constant (.str txt) j p3] [] p4) p5
/-- what the written part says of the class at C and its __init__ at fI -/
structure ExT (P : Program) (K : Frag) (mg : Str → Option Value) (x : Str) (C : Addr) (B newId initId : String) (bmB : List Value) (ns : List Str) : Prop where
  bf : BaseF B newId initId bmB
  gC : mg x = some (.ref C)
  kC : keepIn K (.ref C) = true
  cls : ∃ nm q N bs bm sn sub ab col dd k0 k1 k2 k3 k5, K.lookup C = some (excClassObj nm q C N bs bm true sn sub ab col dd k0 k1 k2 k3 k5 newId) ∧ excTail bmB bm = true
  sa : findIn K (.ref C) "__setattr__" = some (some (.builtin "object.__setattr__"))
  ga : findIn K (.ref C) "__getattribute__" = some (some (.builtin "BaseException.__getattribute__"))
  gg : findIn K (.ref C) "__getattr__" = some none
  exC : subIn K (.ref C) (.type "BaseException") = some true
  tyC : typeIn K (.ref C) = some (.type "type")
  hdC : hasDictIn K C = true
  subB : subIn K (.ref C) (.type B) = some true
  mroC : mroIn K C (.ref C) = some true
  su : ks_superIn K C C "__init__" = some (some (.builtin initId))
  op : nsIn K cStatics "thirdparty.any" = some none
  sup : mg "super" = none
  noF : ∀ f ∈ ns, findIn K (.ref C) f = some none
  nd : ns.Nodup
  fn : ∃ (fI cda cc : Addr) (oc dV kV doc pm ct : Value) (od an : Option Addr) (osl : Array (Option Value)) (qual : Str) (A : Arguments) (Sc : Scope) (txt : Str) (j : Nat) (p0 p1 p2 p3 p4 p5 : Pos) (fs : List (Str × Pos × Pos × Pos × Pos)),
    K.lookup fI = some ⟨oc, od, .func (ksFn "__init__" qual A (superS txt j p0 p1 p2 p3 p4 p5 :: storesS fs) Sc dV kV doc pm an (.ref cda) ct cc), osl⟩ ∧ fs.map (·.1) = ns ∧ (p2.endLine == p4.line) = true ∧
    findIn K (.ref C) "__init__" = some (some (.ref fI)) ∧ typeIn K (.ref fI) = some (.type "function") ∧ codeIn K (.ref cda) qual = true ∧
    (∃ ccl cdd vs ccs file tf, K.lookup cda = some ⟨ccl, cdd, .fields vs, ccs⟩ ∧ vs[2]? = some (.str file tf) ∧ ((P.main.file : Str) == file) = true) ∧
    (∃ cl cld csl, K.lookup cc = some ⟨cl, cld, .cell (some (.ref C)), csl⟩) ∧
    (∃ ar, (A.posonlyargs ++ A.args).head? = some ar ∧ ar.arg = "self") ∧
    Sc.kind = .function ∧ Sc.isCoroutine = false ∧ Sc.isGenerator = false ∧ (∀ y ∈ Sc.names, y.2 ≠ .cell) ∧ Sc.names.lookup ("super" : Str) = some .globalImplicit ∧ Sc.names.lookup ("__class__" : Str) = some .free ∧ Sc.names.lookup ("self" : Str) = some .local ∧
    (∀ f ∈ ns, Sc.names.lookup f = some .local ∧ (f == ("__debug__" : Str)) = false ∧ f ≠ "self") ∧
    (∀ (s : Shared) (e : Addr) (us : List Value) (args : Args), us.length = ns.length → (args = ⟨.ref e :: us, []⟩ ∨ args = ⟨[.ref e], ns.zip us⟩ ∨ args = ⟨[.ref e], (ns.zip us).reverse⟩) →
      BindsTo s (ksFn "__init__" qual A (superS txt j p0 p1 p2 p3 p4 p5 :: storesS fs) Sc dV kV doc pm an (.ref cda) ct cc) args (((("self" : Str) :: ns) : List Str).zip (.ref e :: us)))
  htop : (P.main.scope.names.lookup ("super" : Str)).isSome = false

/-! ### a store into an exception -/
abbrev excF (C t : Addr) (d : Option Addr) : Obj := { cls := .ref C, dict := d, data := .fields #[.ref t, .none, .none, .none, .bool false, .none] }
section
open Builtin Builtin.ObjectAttr
variable {prog : Program} {w : World} {A : Around} {E : Value → Shared → Prop} {R : Result → Shared → Prop} {hp : Heap} {g : Array GenState} {d : Drawn} {t : Nat} {os : OsState} {B newId initId : String} {bmB : List Value}
theorem osa_way (BF : BaseF B newId initId bmB) {K : W.Frag} {name : Str} {tk : Tok} {v : Value} {x C : Addr} {ox : Obj} {od : Option Obj} {cd : ClassData}
    (X : K.In hp) (I : W.InstAt hp x ox C od) (hcd : W.clsIn K C = some cd) (hm : excTail bmB cd.mro = true) (ha : W.findIn K (.ref C) name = some none)
    (hq : wpAny (model prog w) A.in1 (storeInOwnDict (.ref x) (.ref C) (.str name tk) name v false)
      (fun fin s' => match fin with | .done f => R (.ok f) s' | .again c' => c'.quiet = true ∧ codeAny (model prog w) A c' R s') (fun e s' => R (.error e) s') ⟨hp, g, d, t, os⟩) :
    codeAny (model prog w) A (.call (.builtin "object.__setattr__") ⟨[.ref x, .str name tk, v], []⟩) R ⟨hp, g, d, t, os⟩ := by
  have SF := F.store_object
  have hob : cd.mro.contains (.type "object") = true := (excTail_contains "object" _ hm).trans BF.sf.hasOwner
  have ne : cd.mro.isEmpty = false := by
    cases e : cd.mro with
    | nil => rw [e] at hob; cases hob
    | cons a r => rfl
  have sub : W.Looks (model prog w) hp (isInstance (.ref x) (.type "object")) true := I.type.andThen (W.looks_mroIn X (by unfold W.mroIn; rw [hcd, Option.bind_some, if_neg (by rw [ne]; decide), hob]))
  refine codeAny_call_builtin SF.slot.plain SF.entry (@W.check_slot (model prog w) _ _ ⟨hp, g, d, t, os⟩ "object.__setattr__" "object" "__setattr__" (.ref x) [.str name tk, v] [] _ SF.kind SF.split sub (SF.args (.ref x) (.str name tk) v) ?_)
  have hmr : W.Looks (model prog w) hp (mroOf (.ref C)) cd.mro := (W.looks_clsIn X hcd).andThen .now
  have L3 : W.Looks (model prog w) hp (storeTaker? none) none := .now
  rw [W.osa_eq, refuse_eq]
  refine wpAny_bind (wpAny_bind (I.type.at (wpAny_bind (hmr.at ?_))))
  rw [excTail_pass (.ref x) (BF.sf.passes (.ref x)) _ hm]
  refine wpAny_pure (wpAny_bind (I.type.at (wpAny_bind ((W.looks_findIn X ha).at (wpAny_bind (L3.at ?_))))))
  exact hq
theorem osa_new (BF : BaseF B newId initId bmB) {K : W.Frag} {name : Str} {tk : Tok} {v : Value} {x C : Addr} {fv : Array Value} {cd : ClassData}
    (X : K.In hp) (hx : hp.get? x = some { cls := .ref C, data := .fields fv }) (hcd : W.clsIn K C = some cd) (hm : excTail bmB cd.mro = true) (hh : cd.hasDict = true) (ha : W.findIn K (.ref C) name = some none)
    (hq : ∀ h' tk' dx, (∀ b o, b ≠ x → hp.get? b = some o → h'.get? b = some o) → hp.objs.size ≤ dx → dx ≠ x → h'.get? x = some { cls := .ref C, dict := some dx, data := .fields fv } →
      h'.Ns1 dx (fun y => if y = name then some v else none) → R (.ok (.ret .none)) ⟨h', g, d, tk', os⟩) :
    codeAny (model prog w) A (.call (.builtin "object.__setattr__") ⟨[.ref x, .str name tk, v], []⟩) R ⟨hp, g, d, t, os⟩ := by
  have I : W.InstAt hp x { cls := .ref C, data := .fields fv } C none := ⟨hx, rfl, rfl, trivial⟩
  have hxs : x ≠ hp.objs.size := Nat.ne_of_lt (Heap.lt_size hx)
  refine osa_way BF X I hcd hm ha ?_
  have hcls : W.Looks (model prog w) hp (classData C) cd := W.looks_clsIn X hcd
  obtain ⟨nm, bs, mro, ns, qn, hd, sn, sb, ab, col, del⟩ := cd
  dsimp only at hh
  subst hh
  unfold storeInOwnDict ownDictForStores
  repeat (first | with_reducible refine HandSPX.store_in_new ?_ ?_ | with_reducible refine wpAny_loadPart_at hx ?_ | with_reducible refine hcls.at ?_ | wp_step)
  · exact ⟨_, #[], _, (Heap.get?_update_ne _ _ _ _ hxs.symm).trans (Heap.get?_push_at rfl rfl), rfl, fun e he => absurd he (by simp), fun _ => rfl⟩
  · intro h' tk' hn' hs
    have hx₁ : (hp.push { cls := .type "dict", data := .dict #[] }).get? x = some { cls := .ref C, data := .fields fv } := Heap.get?_push_of_some _ hx
    refine hq h' tk' hp.objs.size (fun b o hb ho => ?_) (Nat.le_refl _) hxs.symm ?_ hn'
    · exact (hs.2 b (Nat.ne_of_lt (Heap.lt_size ho))).trans ((Heap.get?_update_ne _ _ _ _ hb).trans (Heap.get?_push_of_some _ ho))
    · exact (hs.2 x hxs).trans (Heap.get?_update_self _ hx₁ rfl)
theorem osa_old (BF : BaseF B newId initId bmB) {K : W.Frag} {name : Str} {tk : Tok} {v : Value} {x C dx : Addr} {fv : Array Value} {cd : ClassData} {m0 : Str → Option Value} {nl : List Str}
    (X : K.In hp) (hx : hp.get? x = some { cls := .ref C, dict := some dx, data := .fields fv }) (hns : hp.Ns1 dx m0) (hw : Within m0 nl) (hz : nl.length ≤ 1000) (hcd : W.clsIn K C = some cd) (hm : excTail bmB cd.mro = true) (hh : cd.hasDict = true)
    (ha : W.findIn K (.ref C) name = some none)
    (hq : ∀ h' tk', (∀ b o, b ≠ dx → hp.get? b = some o → h'.get? b = some o) → h'.Ns1 dx (fun y => if y = name then some v else m0 y) → R (.ok (.ret .none)) ⟨h', g, d, tk', os⟩) :
    codeAny (model prog w) A (.call (.builtin "object.__setattr__") ⟨[.ref x, .str name tk, v], []⟩) R ⟨hp, g, d, t, os⟩ := by
  obtain ⟨oD, esD, epD, hoD, hdD, _⟩ := hns.count hw
  have I : W.InstAt hp x { cls := .ref C, dict := some dx, data := .fields fv } C (some oD) := ⟨hx, rfl, rfl, hoD⟩
  refine osa_way BF X I hcd hm ha ?_
  have hcls : W.Looks (model prog w) hp (classData C) cd := W.looks_clsIn X hcd
  obtain ⟨nm, bs, mro, ns, qn, hd, sn, sb, ab, col, del⟩ := cd
  dsimp only at hh
  subst hh
  unfold storeInOwnDict ownDictForStores
  repeat (first | with_reducible refine OEX.store_in_old hns hw hz ?_ | with_reducible refine wpAny_loadPart_at hx ?_ | with_reducible refine hcls.at ?_ | wp_step)
  intro h' tk' hn' hs
  exact hq h' tk' (fun b o hb ho => (hs.2 b hb).trans ho) hn'
end
end EX
end PySem

namespace PySem
namespace EX
open PySem.W PySem.Calls PyProof.Rows PySem.HandSPX

section
variable {prog : Program} {w : World} {A : Around} {E : Value → Shared → Prop} {R : Result → Shared → Prop} {hp : Heap} {g : Array GenState} {d : Drawn} {t : Nat} {os : OsState} {B newId initId : String} {bmB : List Value}
variable {K : Frag} {mg : Str → Option Value} {x : Str} {C : Addr} {ns : List Str} {base : Heap}
/-- the built-in __init__, bound, called with a text -/
theorem call_mw (T : ExT prog K mg x C B newId initId bmB ns) {u e t0 : Addr} {rest : List Value} {Q : Value → Shared → Prop} (X : K.In hp) (he : hp.get? e = some (excF C t0 none)) (hu : hp.get? u = some (kxs_mw initId e)) (hz : rest.length ≤ sizeLine)
    (hq : ∀ h' t1, (∀ b o, b ≠ e → hp.get? b = some o → h'.get? b = some o) → h'.get? e = some (excF C t1 none) → Q .none ⟨h', g, d, t, os⟩) :
    wpAny (model prog w) A (call (.ref u) rest) Q E ⟨hp, g, d, t, os⟩ := by
  obtain ⟨nm, q, N, bs, bm, sn, sub, ab, col, dd, k0, k1, k2, k3, k5, hC, hbm⟩ := T.cls
  have FB := T.bf.eb
  refine wpAny_call (codeAny_of_tree ?_)
  show wpAny _ A.in1 (callAny (.ref u) ⟨rest, []⟩) _ _ _
  simp only [callAny]
  refine wpAny_bind (wpAny_load hu ?_)
  simp only [kxs_mw, show (Value.type "method-wrapper" == Value.type "method" || Value.type "method-wrapper" == Value.type "builtin_function_or_method" || Value.type "method-wrapper" == Value.type "method-wrapper") = true by decide, if_true]
  refine KFB.if_so (by decide) ?_
  refine wpAny_bind (check_bound_init FB.toExcCallFacts (X _ _ hC) he rfl ?_)
  refine wpAny_bind (wpAny_pure (wpAny_pure ?_))
  refine ⟨plainId_quiet FB.init.plain _, codeAny_builtin FB.initEntry ?_⟩
  exact exc_init_tree (cls := .ref C) (t0 := t0) (dv := none) (c2 := .none) (c3 := .none) (b4 := .bool false) he hz fun h' k e' t' => hq h' _ k e'
/-- super().__init__('..') -/
theorem super_run (T : ExT prog K mg x C B newId initId bmB ns) (M : L2.Mod K mg base) {q : Str} {scope : Scope} {L fI cda cc : Addr} {fd : FuncData} {body : List Stmt} {txt : Str} {j : Nat} {p0 p1 p2 p3 p4 p5 : Pos} {e t0 : Addr} {m : Str → Option Value} {Q : Flow → Shared → Prop}
    (bb : ∀ b o, base.get? b = some o → hp.get? b = some o) (hn : hp.Ns L m) (hs : m "self" = some (.ref e)) (he : hp.get? e = some (excF C t0 none))
    {oc : Value} {od : Option Addr} {osl : Array (Option Value)} (hf : K.lookup fI = some ⟨oc, od, .func fd, osl⟩) {ar : Arg} (hp0 : (fd.params.posonlyargs ++ fd.params.args).head? = some ar) (har : ar.arg = "self")
    {ccl : Value} {cdd : Option Addr} {vs : Array Value} {ccs : Array (Option Value)} {file : Str} {tf : Tok} (hcode : K.lookup cda = some ⟨ccl, cdd, .fields vs, ccs⟩) (hvs : vs[2]? = some (.str file tf)) (hfile : ((prog.main.file : Str) == file) = true)
    {cl : Value} {cld : Option Addr} {csl : Array (Option Value)} (hcell : K.lookup cc = some ⟨cl, cld, .cell (some (.ref C)), csl⟩)
    (hline : (p2.endLine == p4.line) = true) (hk : scope.kind = .function) (hks : scope.names.lookup ("super" : Str) = some .globalImplicit) (hkc : scope.names.lookup ("__class__" : Str) = some .free) (hka : scope.names.lookup ("self" : Str) = some .local)
    (hq : ∀ h' tk t1, (∀ b o, b ≠ e → hp.get? b = some o → h'.get? b = some o) → h'.get? e = some (excF C t1 none) → Q .next ⟨h', g, d, tk, os⟩) :
    wpAt (model prog w) A (.func body (ksEnv q scope L fI (.ref cda) cc)) (exec (superS txt j p0 p1 p2 p3 p4 p5) (ksEnv q scope L fI (.ref cda) cc)) Q E ⟨hp, g, d, t, os⟩ := by
  obtain ⟨nm, qn, N, bs, bm, sn, sub, ab, col, dd, k0, k1, k2, k3, k5, hC, hbm⟩ := T.cls
  have X : K.In hp := M.kin.keeps bb
  have hcl : clsIn K C = some { name := nm, bases := bs, mro := .ref C :: bm, ns := N, qualname := qn, hasDict := true, slotNames := sn, subclasses := sub, abstract := ab, collection := col, hasDel := false } := by unfold clsIn; rw [hC] <;> rfl
  have I : InstAt hp e (excF C t0 none) C none := ⟨he, rfl, rfl, trivial⟩
  obtain ⟨mb, hb1, hb2⟩ := M.blt
  unfold superS
  have hmf : methodCallForm (1 + 0) (backTo p4 (starEach [Expr.Constant (Const.str txt) j p3] (ksEnv q scope L fI (.ref cda) cc))) (backToKw p4 (keywordEach [] (ksEnv q scope L fI (.ref cda) cc))) = true := rfl
  refine ks_wpAt_Expr_any (ks_wpAt_MethodCall (pl := do return (← importBound (.Call (.Name "super" p0) [] [] p1) (ksEnv q scope L fI (.ref cda) cc)).getD true) ?_ (by
    show (attributeBase _ _ _ _ >>= fun ov => standAt _ >>= fun _ => methodCall _ _ _ _ _ _ (1 + 0) _ _) = _
    unfold methodCall methodCallPos
    rw [hmf]
    simp only [hline, Bool.or_true, if_true]
    rfl)) (by unfold interactive; rw [show (ksEnv q scope L fI (.ref cda) cc).scope.kind = .function from hk]; rfl)
  refine ks_wpAt_super_base (env := ksEnv q scope L fI (.ref cda) cc) hks hkc rfl rfl (X _ _ hf) rfl hp0 rfl (X _ _ hcode) rfl hvs hfile T.htop ?_
  refine ks_loadName_global hk hks (loadGlobal_builtin (env := ksEnv q scope L fI (.ref cda) cc) (M.glob.keeps bb) T.sup (hb1.keeps bb) ((hb2 _ (by decide +kernel)).trans (by decide +kernel)) ⟨rfl, ?_⟩)
  refine wpAny_loadName_free hk hkc rfl ⟨_, X _ _ hcell, rfl⟩ ?_
  rw [har]
  refine wpAny_loadName_local hk hka hn hs ?_
  refine ks_wpAny_isType_cls (X _ _ hC) rfl ⟨rfl, ?_⟩
  refine ks_wpAny_call_super (X _ _ hC) rfl he rfl (fun c z => by cases z) (looks_mroIn X T.mroC) (fun h' eso k => ?_)
  have X' : K.In h' := X.keeps k
  have he' := k _ _ he
  have I' : InstAt h' e (excF C t0 none) C none := ⟨he', rfl, rfl, trivial⟩
  have hI : Looks (model prog w) h' (isInstance (.ref e) (.type B)) true := I'.type.andThen (looks_subIn X' T.subB)
  have hf0 : alongIn K "__init__" (((.ref C :: bm).dropWhile (· != .ref C)).drop 1) = some (some (.builtin initId)) := by
    have z := T.su
    unfold ks_superIn at z
    rw [hcl] at z
    exact z
  refine kxs_getMethod T.bf.kf eso (looks_opaque X' T.op) (l₀ := .ref C :: bm) (fun A Q E s k q => wpAny_bind ((looks_clsIn X' hcl) A _ E s k (wpAny_pure q))) rfl X' hf0 hI (ks_ne X I hcl) (by decide +kernel) ?_
  refine kxs_callWith (i := initId) (x := e) (by rfl) ?_
  have hmw : (h'.push (kxs_mw initId e)).get? h'.objs.size = some (kxs_mw initId e) := Heap.get?_push_at rfl rfl
  have hee : (h'.push (kxs_mw initId e)).get? e = some (excF C t0 none) := Heap.get?_push_of_some _ he'
  have kk : ∀ b o, hp.get? b = some o → (h'.push (kxs_mw initId e)).get? b = some o := fun b o z => Heap.get?_push_of_some _ (k b o z)
  refine evalArgs_plain (spliced_cons (Constant_str (k := j) (pos := p3) (spliced_nil ⟨hmw, ?_⟩)))
  refine call_mw T (X'.keeps fun b o z => Heap.get?_push_of_some _ z) hee hmw (by show 1 ≤ sizeLine; rw [sizeLine_eq]; omega) fun h3 t1 k3 e3 => ?_
  exact hq h3 _ t1 (fun b o hb z => k3 b o hb (kk b o z)) e3
/-! ### the stores -/
def ExAt (h : Heap) (n0 : Nat) (L e C : Addr) (m : List (Str × Value)) : Prop :=
  ∃ t1, (m = [] ∧ h.get? e = some (excF C t1 none)) ∨ ∃ dx, n0 ≤ dx ∧ dx ≠ e ∧ dx ≠ L ∧ h.get? e = some (excF C t1 (some dx)) ∧ h.Ns1 dx (fun y => m.lookup y)
theorem lookup_mem {l : List (Str × Value)} {k : Str} {v : Value} (h : l.lookup k = some v) : k ∈ l.map (·.1) := by
  induction l with
  | nil => cases h
  | cons p l ih =>
    obtain ⟨f, z⟩ := p
    rw [List.lookup_cons] at h
    by_cases e : (k == f) = true
    · rw [eq_of_beq e]
      exact List.mem_cons_self
    · simp only [e] at h
      exact List.mem_cons_of_mem _ (ih h)
theorem lookup_nodup {l : List (Str × Value)} {k : Str} {v : Value} (h : (l.map (·.1)).Nodup) (m : (k, v) ∈ l) : l.lookup k = some v := by
  induction l with
  | nil => cases m
  | cons p l ih =>
    obtain ⟨f, z⟩ := p
    rw [List.map_cons, List.nodup_cons] at h
    rw [List.lookup_cons]
    rcases List.mem_cons.mp m with e | e
    · cases e
      simp
    · have ne : (k == f) = false := by
        rw [beq_eq_false_iff_ne]
        intro q
        exact h.1 (by rw [← q]; exact List.mem_map.mpr ⟨(k, v), e, rfl⟩)
      simp only [ne]
      exact ih h.2 e
theorem lookup_put (f g : Str) (y : Value) (fs : List (Str × Value)) : ((f, y) :: fs).lookup g = if g = f then some y else fs.lookup g := by
  by_cases h : g = f
  · subst h
    simp [List.lookup]
  · have e : (g == f) = false := by simpa using h
    rw [if_neg h]
    simp [List.lookup, e]
theorem stores_run (T : ExT prog K mg x C B newId initId bmB ns) {env : Env} {L e : Addr} {n0 : Nat} {m0 : Str → Option Value} (hk : env.scope.kind = .function) (hL : env.locals = L) (hself : env.kindOf "self" = some .local) (hs0 : m0 "self" = some (.ref e)) (eL : e ≠ L) (e0 : n0 ≤ e) :
    ∀ (fs : List (Str × Pos × Pos × Pos × Pos)) (us : List Value) (m : List (Str × Value)) (s : Shared), us.length = fs.length → (∀ f ∈ fs, f.1 ∈ ns ∧ env.kindOf f.1 = some .local ∧ (f.1 == ("__debug__" : Str)) = false) → (∀ p ∈ (fs.map (·.1)).zip us, m0 p.1 = some p.2) →
      fs.length + m.length ≤ 1000 → (∀ b o, base.get? b = some o → b < n0 ∧ s.heap.get? b = some o) → K.In base → s.heap.Ns L m0 → ExAt s.heap n0 L e C m →
      ∀ (Q : Flow → Shared → Prop), (∀ h' tk, (∀ b o, b < n0 ∨ b = L → s.heap.get? b = some o → h'.get? b = some o) → ExAt h' n0 L e C (((fs.map (·.1)).zip us).reverse ++ m) → Q .next { s with heap := h', toks := tk }) →
      wpAny (model prog w) A (execs (storesS fs) env) Q E s := by
  intro fs
  induction fs with
  | nil =>
    intro us m s hl _ _ _ _ _ _ hE Q q
    cases us with
    | nil => exact wpAny_execs_nil (q s.heap s.toks (fun _ _ _ z => z) hE)
    | cons a b => cases hl
  | cons f fs ih =>
    intro us m s hl hf hv hz hb hK hn hE Q q
    obtain ⟨f, pq⟩ := f
    cases us with
    | nil => cases hl
    | cons v us =>
      obtain ⟨f1, f2, f3⟩ := hf (f, pq) List.mem_cons_self
      obtain ⟨nm, qn, N, bs, bm, sn, sub, ab, col, dd, k0, k1, k2, k3, k5, hC, hbm⟩ := T.cls
      have X : K.In s.heap := hK.keeps fun b o z => (hb b o z).2
      have hcl : clsIn K C = some { name := nm, bases := bs, mro := .ref C :: bm, ns := N, qualname := qn, hasDict := true, slotNames := sn, subclasses := sub, abstract := ab, collection := col, hasDel := false } := by unfold clsIn; rw [hC] <;> rfl
      have hmv : m0 f = some v := hv (f, v) (by rw [List.map_cons, List.zip_cons_cons]; exact List.mem_cons_self)
      subst hL
      -- the rest, from a state with f stored
      have rest : ∀ h' tk, (∀ b o, b < n0 ∨ b = env.locals → s.heap.get? b = some o → h'.get? b = some o) → ExAt h' n0 env.locals e C ((f, v) :: m) → wpAny (model prog w) A (execs (storesS fs) env) Q E { s with heap := h', toks := tk } := fun h' tk k hE' => by
        refine ih us ((f, v) :: m) { s with heap := h', toks := tk } (by simpa using hl) (fun g hg => hf g (List.mem_cons_of_mem _ hg)) (fun p hp => hv p (by rw [List.map_cons, List.zip_cons_cons]; exact List.mem_cons_of_mem _ hp)) (by rw [List.length_cons]; rw [List.length_cons] at hz; omega)
          (fun b o z => ⟨(hb b o z).1, k b o (.inl (hb b o z).1) (hb b o z).2⟩) hK (hn.at fun o z => k _ o (.inr rfl) z) hE' Q fun h2 tk2 k2 hE2 => ?_
        refine q h2 tk2 (fun b o hb' z => k2 b o hb' (k b o hb' z)) ?_
        rw [List.map_cons, List.zip_cons_cons, List.reverse_cons, List.append_assoc]
        exact hE2
      show wpAny (model prog w) A (execs (storeS f pq :: storesS fs) env) Q E s
      unfold storeS
      refine wpAny_execs_cons (plainObj_wpAny_Assign_Attribute (wpAny_Name (wpAny_loadName_local hk f2 hn hmv (wpAny_Name (wpAny_loadName_local hk hself hn hs0 ?_) (by decide +kernel))) f3) (by rfl))
      obtain ⟨t1, ⟨rfl, he⟩ | ⟨dx, d0, d1, d2, he, hd⟩⟩ := hE
      · obtain ⟨hp, g, dr, tk, os⟩ := s
        refine set_plain X (ox := excF C t1 none) (od := none) ⟨he, rfl, rfl, trivial⟩ T.sa ?_
        refine osa_new T.bf X he hcl (show excTail bmB (.ref C :: bm) = true from hbm) rfl (T.noF f f1) fun h' tk' dx k dn dne hx hn' => ?_
        refine rest h' tk' (fun b o hb' z => k b o (fun y => ?_) z) ⟨t1, .inr ⟨dx, ?_, dne, ?_, hx, ?_⟩⟩
        · rcases hb' with w | w
          · rw [y] at w; exact absurd e0 (Nat.not_le.mpr w)
          · exact eL (y.symm.trans w)
        · have := Heap.lt_size he
          exact Nat.le_trans (Nat.le_of_lt (Nat.lt_of_le_of_lt e0 this)) dn
        · intro y
          obtain ⟨oL, _, _, hoL, _⟩ := hn
          have := Heap.lt_size hoL
          rw [← y] at this
          exact absurd dn (Nat.not_le.mpr this)
        · have : (fun y => if y = f then some v else none) = fun y => ([(f, v)] : List (Str × Value)).lookup y := by
            funext y
            rw [lookup_put]
            rfl
          rw [← this]
          exact hn'
      · have hw : Within (fun y => m.lookup y) (m.map (·.1)) := fun y hy => by
          cases z : m.lookup y with
          | none => exact absurd z hy
          | some v => exact lookup_mem z
        have hdc := hd
        obtain ⟨oD, _, _, hoD, _, _⟩ := hdc.count hw
        obtain ⟨hp, g, dr, tk, os⟩ := s
        refine set_plain X (ox := excF C t1 (some dx)) (od := some oD) ⟨he, rfl, rfl, hoD⟩ T.sa ?_
        refine osa_old T.bf X he hd hw (by rw [List.length_map]; omega) hcl (show excTail bmB (.ref C :: bm) = true from hbm) rfl (T.noF f f1) fun h' tk' k hn' => ?_
        refine rest h' tk' (fun b o hb' z => k b o (fun y => ?_) z) ⟨t1, .inr ⟨dx, d0, d1, d2, k _ _ (Ne.symm d1) he, ?_⟩⟩
        · rcases hb' with w | w
          · rw [y] at w; exact absurd d0 (Nat.not_le.mpr w)
          · exact d2 (y.symm.trans w)
        · have : (fun y => if y = f then some v else m.lookup y) = fun y => ((f, v) :: m).lookup y := by
            funext y
            rw [lookup_put]
          rw [← this]
          exact hn'
/-- what a made exception leaves -/
structure Made (h h' : Heap) (e C : Addr) (m : List (Str × Value)) : Prop where
  keep : ∀ b o, h.get? b = some o → h'.get? b = some o
  new : h.objs.size ≤ e
  at_ : ∃ L, ExAt h' h.objs.size L e C m
theorem init_run (T : ExT prog K mg x C B newId initId bmB ns) (M : L2.Mod K mg base) {e t0 : Addr} {us : List Value} {s : Shared} {n0 : Nat} (hl : us.length = ns.length) (hz : ns.length ≤ 1000) (hb : ∀ b o, base.get? b = some o → b < n0 ∧ s.heap.get? b = some o)
    (e0 : n0 ≤ e) (he : s.heap.get? e = some (excF C t0 none)) (hroom : A.depth < recursionLimit) :
    ∃ fI, findIn K (.ref C) "__init__" = some (some (.ref fI)) ∧ typeIn K (.ref fI) = some (.type "function") ∧
      ∀ args : Args, (args = ⟨.ref e :: us, []⟩ ∨ args = ⟨[.ref e], ns.zip us⟩ ∨ args = ⟨[.ref e], (ns.zip us).reverse⟩) → ((∀ h' tk L, (∀ b o, b < n0 → s.heap.get? b = some o → h'.get? b = some o) → ExAt h' n0 L e C ((ns.zip us).reverse) → R (.ok (.ret .none)) { s with heap := h', toks := tk }) →
        codeAny (model prog w) A (.call (.ref fI) args) R s) := by
  obtain ⟨fI, cda, cc, oc, dV, kV, doc, pm, ct, od, an, osl, qual, Ar, Sc, txt, j, p0, p1, p2, p3, p4, p5, fs, hf, hfs, hline, iC, tI, hcd, ⟨ccl, cdd, vs, ccs, file, tf, hcode, hvs, hfile⟩, ⟨cl, cld, csl, hcell⟩, ⟨ar, hp0, har⟩, hk, hco, hgen, hnc, hks, hkc, hka, hns, hbind⟩ := T.fn
  refine ⟨fI, iC, tI, fun args hargs hq => ?_⟩
  have bb : ∀ b o, base.get? b = some o → s.heap.get? b = some o := fun b o z => (hb b o z).2
  have X : K.In s.heap := M.kin.keeps bb
  have nself : ("self" : Str) ∉ ns := fun z => (hns _ z).2.2 rfl
  have hkeys : ((((("self" : Str) :: ns) : List Str).zip (.ref e :: us)).map (·.1)) = ("self" : Str) :: ns := by
    rw [List.map_fst_zip]
    simp [hl]
  have hnd : (((((("self" : Str) :: ns) : List Str).zip (.ref e :: us)).reverse).map (·.1)).Nodup := by
    rw [List.map_reverse, hkeys]
    exact (List.reverse_perm _).nodup_iff.mpr (List.nodup_cons.mpr ⟨nself, T.nd⟩)
  have lk : ∀ k v, (k, v) ∈ (((("self" : Str) :: ns) : List Str).zip (.ref e :: us)) → (((((("self" : Str) :: ns) : List Str).zip (.ref e :: us)).reverse).lookup k) = some v := fun k v m => lookup_nodup hnd (List.mem_reverse.mpr m)
  refine ks_codeAny_call_defAt (fd := ksFn "__init__" qual Ar (superS txt j p0 p1 p2 p3 p4 p5 :: storesS fs) Sc dV kV doc pm an (.ref cda) ct cc) (binds := ((("self" : Str) :: ns) : List Str).zip (.ref e :: us)) hroom (X _ _ hf) rfl (M.nolimit.keeps bb) (codeRec_of X hcd) rfl
    (hbind s e us args hl hargs) hnc (fun y hy => ?_) (fun h₁ hn₁ k₁ => ?_) hco hgen hk
  · have := List.of_mem_zip hy
    rcases List.mem_cons.mp this.1 with z | z
    · rw [z]; exact hka
    · exact (hns _ z).1
  · obtain ⟨hp, g, dr, tk, os⟩ := s
    have hself : ((((("self" : Str) :: ns) : List Str).zip (Value.ref e :: us)).reverse).lookup ("self" : Str) = some (.ref e) := lk _ _ (by rw [List.zip_cons_cons]; exact List.mem_cons_self)
    have eL : e ≠ hp.objs.size := Nat.ne_of_lt (Heap.lt_size he)
    show wpAt _ _ (.func _ (ksEnv qual Sc hp.objs.size fI (.ref cda) cc)) (execs (superS txt j p0 p1 p2 p3 p4 p5 :: storesS fs) (ksEnv qual Sc hp.objs.size fI (.ref cda) cc)) _ _ _
    refine ks_wpAt_execs_cons (super_run T M (L := hp.objs.size) (fun b o z => k₁ b o (bb b o z)) hn₁ hself (k₁ _ _ he) hf hp0 har hcode hvs hfile hcell hline hk hks hkc hka fun h2 tk2 t1 k2 e2 => ?_)
    have keep2 : ∀ b o, b < n0 → hp.get? b = some o → h2.get? b = some o := fun b o hb' z => k2 b o (fun y => by rw [y] at hb'; exact absurd e0 (Nat.not_le.mpr hb')) (k₁ b o z)
    refine wpAt_of_wpAny (stores_run T (env := ksEnv qual Sc hp.objs.size fI (.ref cda) cc) (L := hp.objs.size) (n0 := n0) (m0 := fun y => ((((("self" : Str) :: ns) : List Str).zip (.ref e :: us)).reverse).lookup y) hk rfl hka hself eL e0 fs us [] ⟨h2, g, dr, tk2, os⟩ ?_ ?_ ?_ ?_ (fun b o z => ⟨(hb b o z).1, keep2 b o (hb b o z).1 (hb b o z).2⟩) M.kin (hn₁.at fun o z => k2 _ o (Ne.symm eL) z) ⟨t1, .inl ⟨rfl, e2⟩⟩ _ fun h3 tk3 k3 E3 => ?_)
    · rw [hl, ← hfs, List.length_map]
    · intro f hm
      have : f.1 ∈ ns := by rw [← hfs]; exact List.mem_map_of_mem hm
      exact ⟨this, (hns _ this).1, (hns _ this).2.1⟩
    · intro p hp
      rw [hfs] at hp
      exact lk p.1 p.2 (by rw [List.zip_cons_cons]; exact List.mem_cons_of_mem _ hp)
    · rw [← hfs, List.length_map] at hz
      simpa using hz
    · rw [hfs, List.append_nil] at E3
      exact hq h3 tk3 _ (fun b o hb' z => k3 b o (.inl hb') (keep2 b o hb' z)) E3
theorem make_run (T : ExT prog K mg x C B newId initId bmB ns) (M : L2.Mod K mg base) {us : List Value} {s : Shared} (hl : us.length = ns.length) (hz : ns.length ≤ 1000) (bb : ∀ b o, base.get? b = some o → s.heap.get? b = some o) (hroom : A.depth + 1 < recursionLimit)
    (hq : ∀ h' tk e, Made s.heap h' e C ((ns.zip us).reverse) → R (.ok (.ret (.ref e))) { s with heap := h', toks := tk }) :
    codeAny (model prog w) A (.call (.ref C) ⟨us, []⟩) R s := by
  obtain ⟨nm, q, N, bs, bm, sn, sub, ab, col, dd, k0, k1, k2, k3, k5, hC, hbm⟩ := T.cls
  obtain ⟨hp, g, dr, tk, os⟩ := s
  have k : ∀ b o, hp.get? b = some o → ((hp.push (kdv_tup us)).push (excO C hp.objs.size)).get? b = some o := fun b o e => Heap.get?_push_of_some _ (Heap.get?_push_of_some _ e)
  have hget : ((hp.push (kdv_tup us)).push (excO C hp.objs.size)).get? (hp.objs.size + 1) = some (excO C hp.objs.size) := by heap_get
  have X : K.In hp := M.kin.keeps bb
  have hz2 : us.length ≤ sizeLine := by
    rw [sizeLine_eq]
    omega
  obtain ⟨fI, iC, tI, run⟩ := init_run (A := A.under (.builtin "type.__call__" ⟨.ref C :: us, []⟩)) (w := w) (R := InitBack (hp.objs.size + 1) R) T M (e := hp.objs.size + 1) (t0 := hp.objs.size) (us := us) (s := ⟨(hp.push (kdv_tup us)).push (excO C hp.objs.size), g, dr, tk, os⟩) (n0 := hp.objs.size) hl hz
    (fun b o z => ⟨Heap.lt_size (bb b o z), k b o (bb b o z)⟩) (Nat.le_succ _) hget (by show A.depth + 1 < recursionLimit; exact hroom)
  refine call_own T.bf.eb (fun Y => excTail_contains Y bm hbm) (X _ _ hC) (looks_findIn X iC) (fun self => bind_fn X self tI) hz2 (run _ (.inl rfl) fun h' tk' L k' hE => ⟨rfl, hq h' tk' (hp.objs.size + 1) ⟨fun b o z => k' b o (Heap.lt_size z) (k b o z), Nat.le_succ _, L, hE⟩⟩)
end
end EX
end PySem

namespace Eng
open PySem PySem.Spec PyProof.Rows L2 Evl
variable [Tb]
omit [Tb] in
theorem nT_exo {e C : Addr} {d : Option Addr} : nT (exo e C d) := fun _ z => by unfold exo at z; cases z
omit [Tb] in
theorem nT_exd {dx : Addr} {fs : List (Str × V)} : nT (exd dx fs) := fun _ z => by unfold exd at z; cases z

/-! ### C(..) as a value -/
section
variable {K : PySem.W.Frag} {H : Hp}
theorem kv_append : ∀ {a b : List (Str × V)} {c d : List (Str × Value)}, KV a c → KV b d → KV (a ++ b) (c ++ d)
  | [], _, _, _, .nil, h => h
  | _ :: _, _, _, _, .cons r t, h => .cons r (kv_append t h)
theorem kv_rev : ∀ {a : List (Str × V)} {c : List (Str × Value)}, KV a c → KV a.reverse c.reverse
  | [], _, .nil => .nil
  | _ :: _, _, .cons r t => by
    rw [List.reverse_cons, List.reverse_cons]
    exact kv_append (kv_rev t) (.cons r .nil)
theorem kv_zip : ∀ (ns : List Str) {vs : List V} {us : List Value}, Vals vs us → KV (ns.zip vs) (ns.zip us)
  | [], _, _, _ => by rw [List.zip_nil_left, List.zip_nil_left]; exact .nil
  | n :: ns, _, _, .nil => by rw [List.zip_nil_right, List.zip_nil_right]; exact .nil
  | n :: ns, _, _, .cons r t => .cons ⟨rfl, r⟩ (kv_zip ns t)
theorem kv_look : ∀ {a : List (Str × V)} {c : List (Str × Value)}, KV a c → ∀ f, RelO (a.lookup f) (c.lookup f)
  | [], _, .nil, f => trivial
  | (g, v) :: a, _, .cons (b := (g', u)) r t, f => by
    obtain ⟨e, r⟩ := r
    simp only at e
    subst e
    rw [L2.lookup_put, PySem.EX.lookup_put]
    by_cases z : f = g
    · rw [if_pos z, if_pos z]; exact r
    · rw [if_neg z, if_neg z]; exact kv_look t f
theorem DqFs.append : ∀ {a b : List (Str × V)} {c d : List (Str × D)}, DqFs K H a c → DqFs K H b d → DqFs K H (a ++ b) (c ++ d)
  | [], _, _, _, .nil, h => h
  | _ :: _, _, _, _, .cons r t, h => .cons r (DqFs.append t h)
theorem DqFs.rev : ∀ {a : List (Str × V)} {c : List (Str × D)}, DqFs K H a c → DqFs K H a.reverse c.reverse
  | [], _, .nil => .nil
  | _ :: _, _, .cons r t => by
    rw [List.reverse_cons, List.reverse_cons]
    exact DqFs.append (DqFs.rev t) (.cons r .nil)
theorem dq_zip : ∀ (ns : List Str) {vs : List V} {ds : List D}, DqAll K H vs ds → DqFs K H (ns.zip vs) (ns.zip ds)
  | [], _, _, _ => by rw [List.zip_nil_left, List.zip_nil_left]; exact .nil
  | n :: ns, _, _, .nil => by rw [List.zip_nil_right, List.zip_nil_right]; exact .nil
  | n :: ns, _, _, .cons r t => .cons r (dq_zip ns t)
theorem DqFs.look : ∀ {a : List (Str × V)} {c : List (Str × D)} {f : Str} {d : D}, DqFs K H a c → c.lookup f = some d → ∃ v, a.lookup f = some v ∧ Dq K H v d
  | [], _, f, d, .nil, e => nomatch e
  | (g, v) :: a, _, f, d, .cons (d := d') r t, e => by
    rw [List.lookup_cons] at e ⊢
    by_cases z : (f == g) = true
    · simp only [z] at e ⊢
      cases e
      exact ⟨v, rfl, r⟩
    · have z' : (f == g) = false := by simpa using z
      simp only [z'] at e ⊢
      exact DqFs.look t e
end
/-- the fields of a made exception, the last put first -/
def xfs (ns : List Str) (ds : List D) : List (Str × D) := (ns.zip ds).reverse
def sExc (C : Addr) (ns : List Str) (sa : SA) : SE := fun s => (sa s).bind fun ds s1 => if ds.length = ns.length then .ok (.dat (.exc C (xfs ns ds))) s1 else .bad
section
variable {X : Cx} {c : Cc} {E : XS} {pos p : Pos} {x : Str} {C : Addr} {B newId initId : String} {bmB : List Value} {ns : List Str}
/-- what the making gives, where the arguments are in hand -/
theorem exc_end {pins : List (Addr × Obj)} {σ : L2.St} {H1 B0 H0 B1 : Hp} {s0 s1 : S} {sh : Shared} {us : List Value} {vs : List V} {ds : List D} {Q : VK} (T : PySem.EX.ExT X.prog X.K X.mg x C B newId initId bmB ns) (hr : Room 1 X.A) (hz : ns.length ≤ 1000)
    (I : Inv X pins σ H1 sh) (A1 : Aft X.K c B0 H0 σ s0 B1 H1 s1) (r : Vals vs us) (dq : DqAll X.K B1 vs ds) (hl : ds.length = ns.length)
    (q : ∀ v B' H', Aft X.K c B0 H0 σ s0 B' H' s1 → Dq X.K B' v (.exc C (xfs ns ds)) → Q v H') : wpAny (model X.prog X.w) X.A (call (.ref C) us) (EP X pins σ Q) X.xe sh := by
  have hlu : us.length = ns.length := by rw [← r.length, dq.length, hl]
  have dqf : DqFs X.K B1 (ns.zip vs).reverse (xfs ns ds) := (dq_zip ns dq).rev
  have kv : KV (ns.zip vs).reverse (ns.zip us).reverse := kv_rev (kv_zip ns r)
  obtain ⟨hp, g, dr, tk, os⟩ := sh
  refine wpAny_call (PySem.EX.make_run T I.mod hlu hz I.bk (by have := hr.dp; omega) fun h' tk' e M => ?_)
  show EP X pins σ Q (.ref e) ⟨h', g, dr, tk', os⟩
  have hn : H1 e = none := I.hok.fresh M.new
  obtain ⟨L, t1, hE⟩ := M.at_
  obtain ⟨G, g1, g2⟩ := restrict h' fun b => decide (b ≠ e)
  have gk : ∀ b, b ≠ e → G.get? b = h'.get? b := fun b hb => g1 b (decide_eq_true hb)
  have ge : G.get? e = none := g2 e (by simp)
  have old : ∀ b o, hp.get? b = some o → G.get? b = some o := fun b o q => (gk b (Nat.ne_of_lt (Nat.lt_of_lt_of_le (Heap.lt_size q) M.new))).trans (M.keep b o q)
  have up : ∀ b o, G.get? b = some o → h'.get? b = some o := fun b o z => by
    by_cases hb : b = e
    · rw [hb, ge] at z; cases z
    · exact (gk b hb).symm.trans z
  rcases hE with ⟨em, he⟩ | ⟨dx, d0, d1, d2, he, hd⟩
  · have ob : ObjOk X.prog X.w (upd H1 e (exo e C none)) h' e (exo e C none) := exo_ok he
    have J : Inv X pins σ (upd H1 e (exo e C none)) ⟨h', g, dr, tk', os⟩ := I.laid (t' := tk') M.keep M.new ob
    have A2 := A1.trans (Aft.newB (o := exo e C none) A1.si hn nT_exo)
    refine ⟨.ref e, _, J, rfl, q _ _ _ A2 ?_⟩
    have : xfs ns ds = [] := by
      have z : (ns.zip us).length = 0 := by rw [← List.length_reverse, em]; rfl
      have z2 : (ns.zip ds).length = 0 := by rw [List.length_zip] at z ⊢; omega
      unfold xfs
      rw [List.length_eq_zero_iff.mp z2]
      rfl
    rw [this]
    exact .exc0 upd_same
  · have hnd : H1 dx = none := I.hok.fresh d0
    have ob : ObjOk X.prog X.w (upd H1 dx (exd dx (ns.zip vs).reverse)) G dx (exd dx (ns.zip vs).reverse) := exd_ok (hd.at fun o z => (gk dx d1).trans z) (kv_look kv)
    have J1 : Inv X pins σ (upd H1 dx (exd dx (ns.zip vs).reverse)) ⟨G, g, dr, tk', os⟩ := I.laid (t' := tk') old d0 ob
    have hn2 : (upd H1 dx (exd dx (ns.zip vs).reverse)) e = none := by rw [upd_ne (Ne.symm d1)]; exact hn
    have ob2 : ObjOk X.prog X.w (upd (upd H1 dx (exd dx (ns.zip vs).reverse)) e (exo e C (some dx))) h' e (exo e C (some dx)) := exo_ok he
    have J : Inv X pins σ (upd (upd H1 dx (exd dx (ns.zip vs).reverse)) e (exo e C (some dx))) ⟨h', g, dr, tk', os⟩ := J1.laidN (t' := tk') up ge hn2 ob2
    have A2 := A1.trans (Aft.newB (o := exd dx (ns.zip vs).reverse) A1.si hnd nT_exd)
    have A3 := A2.trans (Aft.newB (o := exo e C (some dx)) A2.si hn2 nT_exo)
    refine ⟨.ref e, _, J, rfl, q _ _ _ A3 (.exc upd_same ?_ (dqf.mono ?_))⟩
    · rw [upd_ne d1]; exact upd_same
    · have nb1 : B1 dx = none := A1.si.bnone hnd
      have nb2 : (upd B1 dx (exd dx (ns.zip vs).reverse)) e = none := A2.si.bnone hn2
      exact fun a o z => by
        rw [upd_ne (ne_of_none (by rw [upd_ne (ne_of_none z nb1)]; exact z) nb2), upd_ne (ne_of_none z nb1)]
        exact z
theorem je_exc {e : Expr} {es : List Expr} {sa : SA} (T : PySem.EX.ExT X.prog X.K X.mg x C B newId initId bmB ns) (hr : Room 1 X.A) (ha : JA X c E (e :: es) sa) (hz : ns.length ≤ 1000 := by decide) (hg : Gl X x := by rfl) (hd : (x == ("__debug__" : Str)) = false := by decide)
    (he : starEach (e :: es) X.env = (false, eval e X.env) :: starEach es X.env := by rfl) (hpl : (backTo pos (starEach es X.env)).any (·.1) = false := by rfl) : JE X c E (.Call (.Name x p) (e :: es) [] pos) (sExc C ns sa) := by
  refine ⟨fun pins s σ H Q I h => ?_⟩
  obtain ⟨B0, s0, I0, q⟩ := of_tr h
  refine wpAny_Call_Name_kw (ld_glob I hg T.gC ?_ hd)
  refine PySem.W.callWith_K (h₀ := X.base) I.ok.mod.kin T.kC (thn (ha.run pos pins s σ H _ I (bindAP (.refl I0) q)) fun us s1 ⟨vs, H1, I1, r1, B1, s2, ds, A1, _, dq, q1⟩ => ⟨I1.kIn, ?_⟩) he hpl
  show wpAny _ _ (call (.ref C) us) _ _ _
  split at q1
  · rename_i z
    exact exc_end T hr hz I1 A1 r1 dq z fun v B' H' A d => q1 v B' H' A d trivial
  · exact q1.elim
theorem je_exc0 (T : PySem.EX.ExT X.prog X.K X.mg x C B newId initId bmB []) (hr : Room 1 X.A) (hg : Gl X x := by rfl) (hd : (x == ("__debug__" : Str)) = false := by decide) : JE X c E (.Call (.Name x p) [] [] pos) (sC (.exc C [])) := by
  refine ⟨fun pins s σ H Q I h => ?_⟩
  obtain ⟨B0, s0, I0, q⟩ := of_tr h
  refine wpAny_Call_Name_kw (ld_glob I hg T.gC ?_ hd)
  refine PySem.W.callWith_K0 I.kIn T.kC ?_
  exact exc_end (ds := []) (vs := []) (us := []) T hr (Nat.zero_le _) I (.refl I0) .nil .nil rfl fun v B' H' A d => q v B' H' A d trivial
end
end Eng

namespace Eng
open PySem PySem.Spec PyProof.Rows L2 Evl
variable [Tb]

/-- what reading of an exception of the class at C wants -/
structure ExI (K : PySem.W.Frag) (C : Addr) : Prop where
  hd : PySem.W.hasDictIn K C = true
  ga : PySem.W.findIn K (.ref C) "__getattribute__" = some (some (.builtin "BaseException.__getattribute__"))
  gg : PySem.W.findIn K (.ref C) "__getattr__" = some none
  exC : PySem.W.subIn K (.ref C) (.type "BaseException") = some true
  ha : PySem.W.findIn K (.ref C) "__class__" = some (some (.builtin "object.__class__"))
  hn : PySem.W.specialIn K (.builtin "object.__class__") "__get__" = some (some (.builtin "getset_descriptor.__get__"))
  htk : PySem.W.takesIn K (.builtin "object.__class__") = some true
  hm : PySem.W.mroIn K C (.type "object") = some true
/-- an exception at a, of the class at C -/
def ExcAt (H : Hp) (a C : Addr) : Prop := H a = some (exo a C none) ∨ ∃ dx fs, H a = some (exo a C (some dx)) ∧ H dx = some (exd dx fs)
theorem excAt_inst {X : Cx} {pins : List (Addr × Obj)} {σ : L2.St} {H : Hp} {s : Shared} {a C : Addr} (I : Inv X pins σ H s) (h : ExcAt H a C) : ∃ ox od, PySem.W.InstAt s.heap a ox C od := by
  rcases h with h | ⟨dx, fs, h1, h2⟩
  · obtain ⟨t1, e⟩ := exo_at I.hok h
    exact ⟨_, none, e, rfl, rfl, trivial⟩
  · obtain ⟨t1, e⟩ := exo_at I.hok h1
    obtain ⟨mA, hns, _⟩ := exd_at I.hok h2
    obtain ⟨od, ho, _⟩ := lookIn_ns hns
    exact ⟨_, some od, e, rfl, rfl, ho⟩
def rIsx (K : PySem.W.Frag) : List V → Hp → VK → Prop := fun xs H Q => ∃ (a C : Addr) (c : V) (u : Value) (b : Bool), xs = [.ref a, c] ∧ ClsV c u ∧ ExcAt H a C ∧ ExI K C ∧ PySem.W.kitOne K (.ref C) u = some b ∧ Q (.bl b) H
theorem call_isx {X : Cx} : CallR X (.builtin "isinstance") (rIsx X.K) := by
  intro pins s σ H xs us Q I r h
  obtain ⟨a, C, c, u, b, rfl, k, hx, T, e, q⟩ := h
  obtain ⟨u1, u2, rfl, r1, r2⟩ := vals2 r
  cases (show u1 = Value.ref a from r1)
  have e2 := k.eq r2
  subst e2
  obtain ⟨ox, od, J⟩ := excAt_inst I hx
  obtain ⟨cd, hc, _⟩ := PySem.W.any_some T.hd
  exact PySem.W.kia_one (PySem.W.kitx_exc (ox := ox) (od := od) (by rw [hc]; rfl) T.ga T.gg T.exC T.ha T.hn T.htk T.hm) I.kIn J e (fun z => nomatch z) fun tk => ⟨.bl b, H, I.tok tk, rfl, q⟩
/-- isinstance of an exception: by a table of classes -/
def isxD (tab : List (Addr × Bool)) : D → Option Vw
  | .exc C _ => (tab.lookup C).map fun b => .dat (.bl b)
  | _ => none
theorem exc_at {K : PySem.W.Frag} {B H : Hp} {v : V} {C : Addr} {fs : List (Str × D)} (e : Ex B H) (h : Dq K B v (.exc C fs)) : ∃ a, v = .ref a ∧ ExcAt H a C := by
  cases h with
  | exc h1 h2 h3 => exact ⟨_, rfl, .inr ⟨_, _, e _ _ h1, e _ _ h2⟩⟩
  | exc0 h1 => exact ⟨_, rfl, .inl (e _ _ h1)⟩
theorem ro_isx {K : PySem.W.Frag} {tab : List (Addr × Bool)} {c : V} {u : Value} (hc : ClsV c u) (hT : ∀ C b, tab.lookup C = some b → ExI K C ∧ PySem.W.kitOne K (.ref C) u = some b) : RO1 K (fun v H Q => rIsx K [v, c] H Q) (isxD tab) := by
  intro B H x d w e p q Q k
  cases d <;> simp only [isxD, reduceCtorEq, Option.map_eq_some_iff] at q
  obtain ⟨b, h1, rfl⟩ := q
  obtain ⟨a, rfl, hx⟩ := exc_at e p
  obtain ⟨T, h2⟩ := hT _ _ h1
  exact ⟨a, _, c, u, b, rfl, hc, hx, T, h2, k _ B H (.old (.bl _))⟩
section
variable {X : Cx} {c : Cc} {E : XS} {pos p p2 : Pos} {a : Expr} {sa : SE}
theorem je_isx {tab : List (Addr × Bool)} {x : Str} {cv : V} {u : Value} (hm : X.mg "isinstance" = none) (hx : PE X (.Name x p2) (tC cv)) (hc : ClsV cv u) (hT : ∀ C b, tab.lookup C = some b → ExI X.K C ∧ PySem.W.kitOne X.K (.ref C) u = some b) (ha : JE X c E a sa) (hg : Gl X "isinstance" := by rfl)
    (hs : starEach [a, .Name x p2] X.env = (false, eval a X.env) :: starEach [.Name x p2] X.env := by rfl) (hs2 : starEach [.Name x p2] X.env = (false, eval (.Name x p2) X.env) :: starEach [] X.env := by rfl) (hpl : (backTo pos (starEach [.Name x p2] X.env)).any (·.1) = false := by rfl) : JE X c E (.Call (.Name "isinstance" p) [a, .Name x p2] [] pos) (sOp1 (isxD tab) sa) :=
  pe_imp (pe_callB call_isx hg hm (by decide +kernel) (pa_cons ha (pa_cons hx pa_nil hs2) hs) (by decide) (by decide) hs hpl) fun _ _ _ q => op1_run (ro_isx hc hT) q
/-- e.f -/
def xfD (cs : List Addr) (f : Str) : D → Option Vw
  | .exc C fs => if C ∈ cs then (fs.lookup f).map .dat else none
  | _ => none
def rXf (K : PySem.W.Frag) (f : Str) : V → Hp → VK → Prop := fun x H Q => ∃ (a C dx : Addr) (fs : List (Str × V)) (v : V), x = .ref a ∧ H a = some (exo a C (some dx)) ∧ H dx = some (exd dx fs) ∧ ExI K C ∧ PySem.W.findIn K (.ref C) f = some none ∧ fs.lookup f = some v ∧ Q v H
theorem pe_xf {e : Expr} {te : TE} {f : Str} (he : PE X e te) (hb : attributeBase e f X.env (eval e X.env) = eval e X.env := by rfl) : PE X (.Attribute e f pos) (tUn (rXf X.K f) te) := by
  refine ⟨fun pins s σ H Q I h => ?_⟩
  refine attr_of hb (thn (he.run pins s σ H _ I h) fun u s1 ⟨x, H1, I1, rx, a, C, dx, fs, v, ex, h1, h2, T, hno, l, q⟩ => ?_)
  subst ex
  obtain rfl : u = Value.ref a := rx
  obtain ⟨t1, e1⟩ := exo_at I1.hok h1
  obtain ⟨mA, hns, hr⟩ := exd_at I1.hok h2
  obtain ⟨od, ho, hl⟩ := lookIn_ns hns
  obtain ⟨u, hu, ru⟩ := RelO.some_of (v := v) (o := mA f) (by rw [← l]; exact hr f)
  have J : PySem.W.InstAt s1.heap a { cls := .ref C, dict := some dx, data := .fields #[.ref t1, .none, .none, .none, .bool false, .none] } C (some od) := ⟨e1, rfl, rfl, ho⟩
  exact HandSPX.exc_get I1.kIn J T.ga T.gg T.exC (PySem.W.findObj_own T.hd hno rfl (by rw [hl, hu])) (handed_of ru) ⟨v, H1, I1.tok _, ru, q⟩
theorem ro_xf {K : PySem.W.Frag} {cs : List Addr} {f : Str} (hT : ∀ C ∈ cs, ExI K C ∧ PySem.W.findIn K (.ref C) f = some none) : RO1 K (rXf K f) (xfD cs f) := by
  intro B H x d w e p q Q k
  cases d <;> simp only [xfD, reduceCtorEq] at q
  rename_i C fs
  split at q
  · rename_i hm
    simp only [Option.map_eq_some_iff] at q
    obtain ⟨d', h1, rfl⟩ := q
    obtain ⟨T, hno⟩ := hT _ hm
    cases p with
    | exc h2 h3 h4 =>
      obtain ⟨v, h5, h6⟩ := h4.look h1
      exact ⟨_, _, _, _, v, rfl, e _ _ h2, e _ _ h3, T, hno, h5, k _ B H (.old h6)⟩
    | exc0 h2 => cases h1
  · cases q
theorem je_xf {cs : List Addr} {f : Str} {e : Expr} {se : SE} (hT : ∀ C ∈ cs, ExI X.K C ∧ PySem.W.findIn X.K (.ref C) f = some none) (he : JE X c E e se) (hb : attributeBase e f X.env (eval e X.env) = eval e X.env := by rfl) : JE X c E (.Attribute e f pos) (sOp1 (xfD cs f) se) :=
  pe_imp (pe_xf he hb) fun _ _ _ q => op1_run (ro_xf hT) q
end
end Eng

namespace Eng
open PySem PySem.Spec PyProof.Rows L2 Evl
variable [Tb]

/-! ### a def that ends with a new list; its call as another's cup -/
section
variable (K : PySem.W.Frag) (c : Cc)
/-- behind it: the new list -/
def NewL (H B' H' : Hp) (ds : List D) (p : Addr) : Prop := ∃ vs, B' p = none ∧ Nn H p ∧ H' p = some (.lst vs) ∧ DqAll K B' vs ds
def trSL (a : SS) (se : SE) : TS := fun D σ H => ∃ B s, Sim K c B H σ s ∧ match a s with
  | .ok .next s1 => (match se s1 with
    | .ok (.fr ds) s2 => ∀ p B' H' σ', AftS K c B H σ s B' H' σ' s2 → NewL K H B' H' ds p → D.rt (.ref p) H'
    | _ => False)
  | _ => False
end
section
variable {X : Cx} {c : Cc} {E : XS} {pos : Pos}
theorem jl_ret {e : Expr} {se : SE} (h : JE X c E e se) : PSs X [.Return (some e) pos] (trSL X.K c sNext se) := pss_imp (pss_one (ps_ret h)) fun D σ H ⟨B, s, I, q⟩ => by
  refine tr_of I ?_
  have q' : match se s with
    | .ok (.fr ds) s2 => ∀ p B' H' σ', AftS X.K c B H σ s B' H' σ' s2 → NewL X.K H B' H' ds p → D.rt (.ref p) H'
    | _ => False := q
  cases z : se s with
  | ok w s2 =>
    rw [z] at q'
    cases w with
    | fr ds =>
      intro v B' H' A V N
      obtain ⟨p, vs, rfl, h1, h2, h3, h4, h5⟩ := V
      exact q' p B' H' σ A.toS ⟨vs, h1, N p rfl, h2, h3⟩
    | _ => exact q'.elim
  | exc x s2 => rw [z] at q'; exact q'.elim
  | bad => rw [z] at q'; exact q'.elim
theorem jl_cons {st : Stmt} {rest : List Stmt} {a b : SS} {se : SE} (h : JS X c E st a) (h2 : PSs X rest (trSL X.K c b se)) : PSs X (st :: rest) (trSL X.K c (sSeq a b) se) := pss_imp (pss_cons h h2) fun D σ H ⟨B, s, I, q⟩ => by
  refine ⟨B, s, I, ?_⟩
  unfold sSeq at q
  cases e : a s with
  | ok o s1 =>
    rw [e] at q
    cases o with
    | next =>
      intro B1 H1 σ1 A1
      refine ⟨B1, s1, A1.si, ?_⟩
      have q' : match b s1 with
        | .ok .next s1 => (match se s1 with
          | .ok (.fr ds) s2 => ∀ p B' H' σ', AftS X.K c B H σ s B' H' σ' s2 → NewL X.K H B' H' ds p → D.rt (.ref p) H'
          | _ => False)
        | _ => False := q
      cases e2 : b s1 with
      | ok o2 s2 =>
        rw [e2] at q'
        cases o2 with
        | next =>
          have q2 : match se s2 with
            | .ok (.fr ds) s2 => ∀ p B' H' σ', AftS X.K c B H σ s B' H' σ' s2 → NewL X.K H B' H' ds p → D.rt (.ref p) H'
            | _ => False := q'
          show match se s2 with
            | .ok (.fr ds) s2 => ∀ p B' H' σ', AftS X.K c B1 H1 σ1 s1 B' H' σ' s2 → NewL X.K H1 B' H' ds p → D.rt (.ref p) H'
            | _ => False
          cases e3 : se s2 with
          | ok w s3 =>
            rw [e3] at q2
            cases w with
            | fr ds =>
              intro p B' H' σ' A' ⟨vs, h1, h2, h3, h4⟩
              exact q2 p B' H' σ' (A1.trans A') ⟨vs, h1, A1.st.nn h2, h3, h4⟩
            | _ => exact q2.elim
          | exc x s3 => rw [e3] at q2; exact q2.elim
          | bad => rw [e3] at q2; exact q2.elim
        | _ => exact q'.elim
      | exc x s2 => rw [e2] at q'; exact q'.elim
      | bad => rw [e2] at q'; exact q'.elim
    | _ => exact q.elim
  | exc x s1 => rw [e] at q; exact q.elim
  | bad => rw [e] at q; exact q.elim
end
/-- the promise of such a def -/
abbrev FN := List D → Option (List D)
def spN (K : PySem.W.Frag) (f : FN) : Sp := fun vs H Q E => ∃ B ds, Ex B H ∧ DqAll K B vs ds ∧ TbOk B H ∧ match f ds with
  | some es => ∀ p B' H', FAft none B H B' H' → NewL K H B' H' es p → Q (.ref p) H'
  | none => False
def defN (n ar : Nat) (ss : SS) (se : SE) : FN := fun ds => if ds.length = ar ∧ ar ≤ n then match ss ⟨ds.map .val ++ List.replicate (n - ar) .no, (0, 0, 0)⟩ with
  | .ok .next s1 => (match se s1 with
    | .ok (.fr es) _ => some es
    | _ => none)
  | _ => none else none
section
variable {P : Program} {w : World} {K : PySem.W.Frag} {mg : Str → Option Value} {base : Heap} {k : Nat} {f : Addr} {fd : FuncData} {ps N : List Str} {x qual : Str} {st : Stmt}
theorem fnN {ss : SS} {se : SE} (F : Fun K x qual st f fd) (S : FnScope N ps (defScope st))
    (hbody : ∀ (cdv : Value) (A : Around) (outer : List Env) (s : Shared) (H : Hp) (E : XK), Room k (A.deeper (envOfC qual (defScope st) s.heap.objs.size f cdv)) → A.guards = some [] →
      PSs (cxOf CX0 P w K mg base N qual (defScope st) f cdv A outer s H E).nox (defBody st) (trSL K cN ss se)) : FnG P w K mg base CX0 (k + 1) f fd ps (spN K (defN N.length ps.length ss se)) := by
  refine fnG_mk F S (fun vs H Q E h => ?_) fun cdv A outer s H vs Q E hr hg h => ⟨_, (hbody cdv A outer s H E hr hg).nox, ?_⟩
  · obtain ⟨B, ds, e, dq, _, h⟩ := h
    rw [dq.length]
    unfold defN at h
    by_cases z : ds.length = ps.length ∧ ps.length ≤ N.length
    · exact z.1
    · rw [if_neg z] at h; exact h.elim
  · obtain ⟨B, ds, e, dq, tb, h⟩ := h
    unfold defN at h
    by_cases z : ds.length = ps.length ∧ ps.length ≤ N.length
    · rw [if_pos z] at h
      have I : Sim K cN B H (L2.start N vs) ⟨ds.map .val ++ List.replicate (N.length - ds.length) .no, (0, 0, 0)⟩ := sim_P tb e dq (by omega)
      rw [z.1] at I
      refine ⟨B, _, I, ?_⟩
      have no : ∀ a, ¬ Own (ds.map Sl.val ++ List.replicate (N.length - ps.length) Sl.no) (L2.start N vs) a := nown_start (vs := vs) no_own_P _
      cases q : ss ⟨ds.map .val ++ List.replicate (N.length - ps.length) .no, (0, 0, 0)⟩ with
      | ok o s' =>
        rw [q] at h
        cases o with
        | next =>
          have h' : match (match se s' with
            | .ok (.fr es) _ => some es
            | _ => none) with
            | some es => ∀ p B' H', FAft none B H B' H' → NewL K H B' H' es p → Q (.ref p) H'
            | none => False := h
          show match se s' with
            | .ok (.fr ds) s2 => _
            | _ => False
          cases q2 : se s' with
          | ok w s2 =>
            rw [q2] at h'
            cases w with
            | fr es => exact fun p B' H' σ' A nl => h' p B' H' (faft_of A no) nl
            | _ => exact h'.elim
          | exc y s2 => rw [q2] at h'; exact h'.elim
          | bad => rw [q2] at h'; exact h'.elim
        | _ => exact h.elim
      | exc y s' => rw [q] at h; exact h.elim
      | bad => rw [q] at h; exact h.elim
    · rw [if_neg z] at h
      exact h.elim
end
/-- f(g(..)), g's new list the cup of f -/
def sCupCall (g : FN) (f : FD) (sa : SA) : SE := fun s => (sa s).bind fun ds s1 => match g ds with
  | some [.int a, .int b, .int d] => (match f (a, b, d) [] with
    | .ok r _ => .ok (.dat r) s1
    | .exc x _ => .exc x s1
    | .bad => .bad)
  | _ => .bad
section
variable {X : Cx} {c : Cc} {E : XS} {pos p pos2 p2 : Pos} {CX : CXT} {k k2 : Nat} {fa fa2 : Addr} {fd fd2 : FuncData} {ps ps2 : List Str} {g : FN} {f : FD} {x x2 : Str} {e : Expr} {es : List Expr} {sa : SA}
theorem newcup_aft {K : PySem.W.Frag} {B0 H0 B H B1 H1 B2 H2 : Hp} {σ : L2.St} {s0 s : S} {a : Addr} (A : Aft K c B0 H0 σ s0 B H s) (F1 : FAft none B H B1 H1) (ha : Nn H a) (F2 : FAft (some a) B1 H1 B2 H2) : Aft K c B0 H0 σ s0 B2 H2 s := by
  have I := A.si
  have A1 := call_aft A F1
  have keep : ∀ b o, H b = some o → nT o → H2 b = some o := fun b o h t => F2.hh b o (F1.hh b o h t nofun) t (fun z => by cases z; exact ha o h t)
  have nb : ∀ b o, B b = none → H b = some o → nT o → B2 b = none := fun b o h1 h2 t => by
    cases e : B2 b with
    | none => rfl
    | some u =>
      rcases F2.gr b u e with z | z
      · cases e1 : B1 b with
        | none => exact absurd e1 z
        | some u1 =>
          rcases F1.gr b u1 e1 with w | w
          · exact absurd h1 w
          · exact absurd t (w _ h2)
      · exact absurd t (z _ (F1.hh b o h2 t nofun))
  refine A.trans ⟨⟨F1.bb.trans F2.bb, fun b o h t _ _ => keep b o h t, fun b o h => ?_, fun b h => .inl h, fun b o h t => ⟨o, keep b o h t, t⟩⟩, ⟨F2.ex, I.len, fun i sl h => (I.slot i sl h).mono (F1.bb.trans F2.bb) keep fun ds b e h1 => ?_, I.dis, fun b h => ?_, F2.tb⟩, .refl⟩
  · rcases F2.gr b o h with z | z
    · cases e1 : B1 b with
      | none => exact absurd e1 z
      | some u1 =>
        rcases F1.gr b u1 e1 with w | w
        · exact .inl w
        · exact .inr (.inl w)
    · exact .inr (.inl fun o1 e1 t => z o1 (F1.hh b o1 e1 t nofun) t)
  · subst e
    obtain ⟨q1, vs, q2, _⟩ := I.ownB h h1
    exact nb b _ q1 q2 nT_lst
  · obtain ⟨q1, q2, q3⟩ := I.cu b h
    exact ⟨nb b _ q1 q2 nT_lst, keep b _ q2 nT_lst, q3⟩
theorem cupcall_run {K : PySem.W.Frag} {σ : L2.St} {H : Hp} {Q : VK} (h : trE K c E (sCupCall g f sa) σ H Q) : trA K c E sa σ H fun vs H1 => spN K g vs H1 (fun v H2 => spC K f [v] H2 Q (E σ)) (E σ) := by
  obtain ⟨B, s, I, q⟩ := of_tr h
  refine trA_mono (bindAP (.refl I) q) fun vs H1 ⟨B1, s1, ds, A1, _, dq, q1⟩ => ?_
  refine ⟨B1, ds, A1.si.ex, dq, A1.si.tb, ?_⟩
  cases z : g ds with
  | none => simp only [z] at q1; exact q1.elim
  | some es =>
    simp only [z] at q1
    show ∀ p B' H', FAft none B1 H1 B' H' → NewL K H1 B' H' es p → _
    intro p B' H' F1 ⟨us, n1, n2, n3, n4⟩
    split at q1
    · rename_i a b d ez
      cases ez
      cases n4 with
      | cons h1 n4 =>
        cases n4 with
        | cons h2 n4 =>
          cases n4 with
          | cons h3 n4 =>
            cases n4
            cases h1
            cases h2
            cases h3
            refine ⟨B', p, [], [], (a, b, d), rfl, F1.ex, fun y hy => by cases hy; exact ⟨n1, n3⟩, .nil, F1.tb, ?_⟩
            cases z2 : f (a, b, d) [] with
            | ok r k =>
              simp only [z2] at q1
              exact fun v B2 H2 F2 _ dv => q1 v B2 H2 (newcup_aft A1 F1 n2 F2) dv trivial
            | exc y k =>
              simp only [z2] at q1
              exact fun cls dd B2 H2 F2 _ dv => q1 cls dd B2 H2 (newcup_aft A1 F1 n2 F2) dv
            | bad => simp only [z2] at q1; exact q1.elim
    · exact q1.elim
theorem je_cupcall (F : FnG X.prog X.w X.K X.mg X.base CX k fa fd ps (spN X.K g)) (F2 : FnG X.prog X.w X.K X.mg X.base CX k2 fa2 fd2 ps2 (spC X.K f)) (hr : Room k X.A) (hr2 : Room k2 X.A) (hgd : X.A.guards = some []) (hm : X.mg x = some (.ref fa)) (hm2 : X.mg x2 = some (.ref fa2)) (hk : PySem.W.keepIn X.K (.ref fa) = true) (hk2 : PySem.W.keepIn X.K (.ref fa2) = true)
    (hb : Binds X.K fd ps []) (hb2 : Binds X.K fd2 ps2 []) (hx : ∀ σ, PassesAt CX X σ (E σ)) (ha : JA X c E (e :: es) sa) (hg : Gl X x := by rfl) (hg2 : Gl X x2 := by rfl) (hd : (x == ("__debug__" : Str)) = false := by decide) (hd2 : (x2 == ("__debug__" : Str)) = false := by decide)
    (he : starEach (e :: es) X.env = (false, eval e X.env) :: starEach es X.env := by rfl) (hpl : (backTo pos (starEach es X.env)).any (·.1) = false := by rfl)
    (he2 : starEach [.Call (.Name x p) (e :: es) [] pos] X.env = (false, eval (.Call (.Name x p) (e :: es) [] pos) X.env) :: starEach [] X.env := by rfl) (hpl2 : (backTo pos2 (starEach [] X.env)).any (·.1) = false := by rfl) :
    JE X c E (.Call (.Name x2 p2) [.Call (.Name x p) (e :: es) [] pos] [] pos2) (sCupCall g f sa) :=
  pe_imp (peG_call F2 hr2 hgd hg2 hm2 hk2 hb2 hx (pa_cons (peG_call F hr hgd hg hm hk hb hx ha hd he hpl) pa_nil he2) hd2 he2 hpl2) fun _ _ _ q => cupcall_run q
end
end Eng

namespace Eng
open PySem PySem.Spec PyProof.Rows L2 Evl
variable [Tb]

/-! ### built-ins by name -/
theorem bt_len : bootBuiltins "len" = some (.builtin "len") := by decide +kernel
theorem bt_abs : bootBuiltins "abs" = some (.builtin "abs") := by decide +kernel
theorem bt_sum : bootBuiltins "sum" = some (.builtin "sum") := by decide +kernel
theorem bt_all : bootBuiltins "all" = some (.builtin "all") := by decide +kernel
theorem bt_sorted : bootBuiltins "sorted" = some (.builtin "sorted") := by decide +kernel
theorem bt_max : bootBuiltins "max" = some (.builtin "max") := by decide +kernel
theorem bt_min : bootBuiltins "min" = some (.builtin "min") := by decide +kernel
theorem bt_repr : bootBuiltins "repr" = some (.builtin "repr") := by decide +kernel
theorem bt_divmod : bootBuiltins "divmod" = some (.builtin "divmod") := by decide +kernel
theorem bt_int : bootBuiltins "int" = some (.type "int") := by decide +kernel
theorem bt_list : bootBuiltins "list" = some (.type "list") := by decide +kernel
theorem bt_tuple : bootBuiltins "tuple" = some (.type "tuple") := by decide +kernel
theorem bt_bool : bootBuiltins "bool" = some (.type "bool") := by decide +kernel
section
variable {X : Cx} {c : Cc} {E : XS} {pos p : Pos} {a b : Expr} {sa sb : SE}
theorem je_len (hm : X.mg "len" = none) (ha : JE X c E a sa) (hg : Gl X "len" := by rfl) (hs : starEach [a] X.env = (false, eval a X.env) :: starEach [] X.env := by rfl) (hpl : (backTo pos (starEach [] X.env)).any (·.1) = false := by rfl) : JE X c E (.Call (.Name "len" p) [a] [] pos) (sOp1 lenD sa) :=
  je_b1 cr_len ro_len hm bt_len ha hg (by decide) (by decide) hs hpl
theorem je_abs (hm : X.mg "abs" = none) (ha : JE X c E a sa) (hg : Gl X "abs" := by rfl) (hs : starEach [a] X.env = (false, eval a X.env) :: starEach [] X.env := by rfl) (hpl : (backTo pos (starEach [] X.env)).any (·.1) = false := by rfl) : JE X c E (.Call (.Name "abs" p) [a] [] pos) (sOp1 absD sa) :=
  je_b1 call_abs ro_abs hm bt_abs ha hg (by decide) (by decide) hs hpl
theorem je_sum (hm : X.mg "sum" = none) (ha : JE X c E a sa) (hc : X.calm = true := by rfl) (hg : Gl X "sum" := by rfl) (hs : starEach [a] X.env = (false, eval a X.env) :: starEach [] X.env := by rfl) (hpl : (backTo pos (starEach [] X.env)).any (·.1) = false := by rfl) : JE X c E (.Call (.Name "sum" p) [a] [] pos) (sOp1 sumD sa) :=
  je_b1 (cr_sum hc) ro_sum hm bt_sum ha hg (by decide) (by decide) hs hpl
theorem je_all (hm : X.mg "all" = none) (ha : JE X c E a sa) (hc : X.calm = true := by rfl) (hg : Gl X "all" := by rfl) (hs : starEach [a] X.env = (false, eval a X.env) :: starEach [] X.env := by rfl) (hpl : (backTo pos (starEach [] X.env)).any (·.1) = false := by rfl) : JE X c E (.Call (.Name "all" p) [a] [] pos) (sOp1 allD sa) :=
  je_b1 (cr_all hc) ro_all hm bt_all ha hg (by decide) (by decide) hs hpl
theorem je_sorted (hm : X.mg "sorted" = none) (ha : JE X c E a sa) (hg : Gl X "sorted" := by rfl) (hs : starEach [a] X.env = (false, eval a X.env) :: starEach [] X.env := by rfl) (hpl : (backTo pos (starEach [] X.env)).any (·.1) = false := by rfl) : JE X c E (.Call (.Name "sorted" p) [a] [] pos) (sOp1 sortedD sa) :=
  je_b1 cr_sortedI ro_sorted hm bt_sorted ha hg (by decide) (by decide) hs hpl
theorem je_repr (hu : X.A.units + 64 < cLine) (hgd : X.A.guards = some []) (hm : X.mg "repr" = none) (ha : JE X c E a sa) (hg : Gl X "repr" := by rfl) (hs : starEach [a] X.env = (false, eval a X.env) :: starEach [] X.env := by rfl) (hpl : (backTo pos (starEach [] X.env)).any (·.1) = false := by rfl) : JE X c E (.Call (.Name "repr" p) [a] [] pos) (sOp1 reprD sa) :=
  je_b1 (cr_repr hu hgd) ro_repr hm bt_repr ha hg (by decide) (by decide) hs hpl
theorem je_intc (hm : X.mg "int" = none) (ha : JE X c E a sa) (hg : Gl X "int" := by rfl) (hs : starEach [a] X.env = (false, eval a X.env) :: starEach [] X.env := by rfl) (hpl : (backTo pos (starEach [] X.env)).any (·.1) = false := by rfl) : JE X c E (.Call (.Name "int" p) [a] [] pos) (sOp1 intD sa) :=
  je_t1 call_int1 ro_int1 hm bt_int ha hg (by decide) (by decide) hs hpl
theorem je_list (hm : X.mg "list" = none) (ha : JE X c E a sa) (hg : Gl X "list" := by rfl) (hs : starEach [a] X.env = (false, eval a X.env) :: starEach [] X.env := by rfl) (hpl : (backTo pos (starEach [] X.env)).any (·.1) = false := by rfl) : JE X c E (.Call (.Name "list" p) [a] [] pos) (sOp1 listD sa) :=
  je_t1 call_list_of ro_list hm bt_list ha hg (by decide) (by decide) hs hpl
theorem je_tuple (hm : X.mg "tuple" = none) (ha : JE X c E a sa) (hg : Gl X "tuple" := by rfl) (hs : starEach [a] X.env = (false, eval a X.env) :: starEach [] X.env := by rfl) (hpl : (backTo pos (starEach [] X.env)).any (·.1) = false := by rfl) : JE X c E (.Call (.Name "tuple" p) [a] [] pos) (sOp1 tupleD sa) :=
  je_t1 call_tuple_of ro_tuple hm bt_tuple ha hg (by decide) (by decide) hs hpl
theorem je_max2 (hm : X.mg "max" = none) (ha : JE X c E a sa) (hb : JE X c E b sb) (hc : X.calm = true := by rfl) (hg : Gl X "max" := by rfl) (hs : starEach [a, b] X.env = (false, eval a X.env) :: starEach [b] X.env := by rfl) (hs2 : starEach [b] X.env = (false, eval b X.env) :: starEach [] X.env := by rfl) (hpl : (backTo pos (starEach [b] X.env)).any (·.1) = false := by rfl) :
    JE X c E (.Call (.Name "max" p) [a, b] [] pos) (sOp2 max2D sa sb) := je_b2 (call_max2 hc) ro_max2 hm bt_max ha hb hg (by decide) (by decide) hs hs2 hpl
theorem je_min2 (hm : X.mg "min" = none) (ha : JE X c E a sa) (hb : JE X c E b sb) (hc : X.calm = true := by rfl) (hg : Gl X "min" := by rfl) (hs : starEach [a, b] X.env = (false, eval a X.env) :: starEach [b] X.env := by rfl) (hs2 : starEach [b] X.env = (false, eval b X.env) :: starEach [] X.env := by rfl) (hpl : (backTo pos (starEach [b] X.env)).any (·.1) = false := by rfl) :
    JE X c E (.Call (.Name "min" p) [a, b] [] pos) (sOp2 min2D sa sb) := je_b2 (call_min2 hc) ro_min2 hm bt_min ha hb hg (by decide) (by decide) hs hs2 hpl
theorem je_divmod (hm : X.mg "divmod" = none) (ha : JE X c E a sa) (hb : JE X c E b sb) (hg : Gl X "divmod" := by rfl) (hs : starEach [a, b] X.env = (false, eval a X.env) :: starEach [b] X.env := by rfl) (hs2 : starEach [b] X.env = (false, eval b X.env) :: starEach [] X.env := by rfl) (hpl : (backTo pos (starEach [b] X.env)).any (·.1) = false := by rfl) :
    JE X c E (.Call (.Name "divmod" p) [a, b] [] pos) (sOp2 divmodD sa sb) := je_b2 call_divmod ro_divmod hm bt_divmod ha hb hg (by decide) (by decide) hs hs2 hpl
end

theorem passE {X : Cx} {E : XS} : ∀ σ, PassesAt CX0 X σ (E σ) := fun _ _ _ _ _ _ _ h => h.elim
/-! ### defs by name -/
/-- keywords alone, in the parameters' order or the other way round -/
def kwN (t : Bool) (ps : List Str) : List Str := if t then ps.reverse else ps
def kwG {α : Type} (t : Bool) (ws : List α) : List α := if t then ws.reverse else ws
def KwB (K : PySem.W.Frag) (fd : FuncData) (ps : List Str) : Prop := ∀ (t : Bool) (s : Shared) (ws : List Value), K.In s.heap → ws.length = ps.length → BindsTo s fd ⟨[], (kwN t ps).zip ws⟩ (ps.zip (kwG t ws))
/-- a def of the text, where it lies, how it binds -/
structure Raw (K : PySem.W.Frag) (mg : Str → Option Value) (x : Str) (st : Stmt) (ps : List Str) : Prop where
  ex : ∃ f fd, Fun K x x st f fd ∧ mg x = some (.ref f) ∧ PySem.W.keepIn K (.ref f) = true ∧ Binds K fd ps [] ∧ KwB K fd ps
/-- a def that keeps its promise -/
structure Df (P : Program) (w : World) (K : PySem.W.Frag) (mg : Str → Option Value) (base : Heap) (x : Str) (k : Nat) (ps : List Str) (sp : Sp) : Prop where
  ex : ∃ f fd, FnG P w K mg base CX0 k f fd ps sp ∧ mg x = some (.ref f) ∧ PySem.W.keepIn K (.ref f) = true ∧ Binds K fd ps [] ∧ KwB K fd ps
section
variable {P : Program} {w : World} {K : PySem.W.Frag} {mg : Str → Option Value} {base : Heap} {k : Nat} {ps N : List Str} {x : Str} {st : Stmt}
theorem dfP {ss : SS} (R : Raw K mg x st ps) (S : FnScope N ps (defScope st))
    (hbody : ∀ (f : Addr) (cdv : Value) (A : Around) (outer : List Env) (s : Shared) (H : Hp) (E : XK), Room k (A.deeper (envOfC x (defScope st) s.heap.objs.size f cdv)) → A.guards = some [] →
      JSs (cxOf CX0 P w K mg base N x (defScope st) f cdv A outer s H E).nox cN EN (defBody st) ss) : Df P w K mg base x (k + 1) ps (spP K (defP N.length ps.length ss)) := by
  obtain ⟨f, fd, F, hm, hk, hb, hkb⟩ := R.ex
  exact ⟨f, fd, fnP F S (hbody f), hm, hk, hb, hkb⟩
theorem dfC {ss : SS} (R : Raw K mg x st ps) (S : FnScope N ps (defScope st)) (hp : 1 ≤ ps.length)
    (hbody : ∀ (f c : Addr) (cdv : Value) (A : Around) (outer : List Env) (s : Shared) (H : Hp) (E : XK), Room k (A.deeper (envOfC x (defScope st) s.heap.objs.size f cdv)) → A.guards = some [] →
      JSs (cxOf CX0 P w K mg base N x (defScope st) f cdv A outer s H E).nox (cC c) EN (defBody st) ss) : Df P w K mg base x (k + 1) ps (spC K (defC N.length (ps.length - 1) ss)) := by
  obtain ⟨f, fd, F, hm, hk, hb, hkb⟩ := R.ex
  exact ⟨f, fd, fnC F S hp (hbody f), hm, hk, hb, hkb⟩
theorem dfN {ss : SS} {se : SE} (R : Raw K mg x st ps) (S : FnScope N ps (defScope st))
    (hbody : ∀ (f : Addr) (cdv : Value) (A : Around) (outer : List Env) (s : Shared) (H : Hp) (E : XK), Room k (A.deeper (envOfC x (defScope st) s.heap.objs.size f cdv)) → A.guards = some [] →
      PSs (cxOf CX0 P w K mg base N x (defScope st) f cdv A outer s H E).nox (defBody st) (trSL K cN ss se)) : Df P w K mg base x (k + 1) ps (spN K (defN N.length ps.length ss se)) := by
  obtain ⟨f, fd, F, hm, hk, hb, hkb⟩ := R.ex
  exact ⟨f, fd, fnN F S (hbody f), hm, hk, hb, hkb⟩
end
section
variable {X : Cx} {c : Cc} {E : XS} {pos p pos2 p2 : Pos} {k k2 n : Nat} {ps ps2 : List Str} {g : FN} {f : FD} {x x2 : Str} {e : Expr} {es : List Expr} {sa : SA}
theorem je_callD (D : Df X.prog X.w X.K X.mg X.base x k ps (spP X.K f)) (hr : Room n X.A) (hgd : X.A.guards = some []) (ha : JA X c E (e :: es) sa) (hk : k ≤ n := by decide) (hg : Gl X x := by rfl) (hd : (x == ("__debug__" : Str)) = false := by decide)
    (he : starEach (e :: es) X.env = (false, eval e X.env) :: starEach es X.env := by rfl) (hpl : (backTo pos (starEach es X.env)).any (·.1) = false := by rfl) : JE X c E (.Call (.Name x p) (e :: es) [] pos) (sCall f sa) := by
  obtain ⟨fa, fd, F, hm, hkp, hb, _⟩ := D.ex
  exact je_call F (hr.mono hk) hgd hm hkp hb passE ha hg hd he hpl
theorem je_callCD (i : Nat) {y : Str} {py : Pos} (D : Df X.prog X.w X.K X.mg X.base x k ps (spC X.K f)) (hr : Room n X.A) (hgd : X.A.guards = some []) (ha : JA X c E es sa) (hk : k ≤ n := by decide) (hN : X.N[i]? = some y := by rfl) (hv : Vis X.env.scope y := by first | exact Or.inl rfl | exact Or.inr (Or.inl rfl) | exact Or.inr (Or.inr rfl)) (hg : Gl X x := by rfl) (hd : (x == ("__debug__" : Str)) = false := by decide) (hd2 : (y == ("__debug__" : Str)) = false := by decide) (hd3 : (y == ("__classdict__" : Str)) = false := by decide)
    (he : starEach (.Name y py :: es) X.env = (false, eval (.Name y py) X.env) :: starEach es X.env := by rfl) (hpl : (backTo pos (starEach es X.env)).any (·.1) = false := by rfl) : JE X c E (.Call (.Name x p) (.Name y py :: es) [] pos) (sCallC i f sa) := by
  obtain ⟨fa, fd, F, hm, hkp, hb, _⟩ := D.ex
  exact je_callC i F (hr.mono hk) hgd hm hkp hb passE ha hN hv hg hd hd2 hd3 he hpl
theorem je_cupcallD (D : Df X.prog X.w X.K X.mg X.base x k ps (spN X.K g)) (D2 : Df X.prog X.w X.K X.mg X.base x2 k2 ps2 (spC X.K f)) (hr : Room n X.A) (hgd : X.A.guards = some []) (ha : JA X c E (e :: es) sa) (hk : k ≤ n := by decide) (hk2 : k2 ≤ n := by decide) (hg : Gl X x := by rfl) (hg2 : Gl X x2 := by rfl) (hd : (x == ("__debug__" : Str)) = false := by decide) (hd2 : (x2 == ("__debug__" : Str)) = false := by decide)
    (he : starEach (e :: es) X.env = (false, eval e X.env) :: starEach es X.env := by rfl) (hpl : (backTo pos (starEach es X.env)).any (·.1) = false := by rfl)
    (he2 : starEach [.Call (.Name x p) (e :: es) [] pos] X.env = (false, eval (.Call (.Name x p) (e :: es) [] pos) X.env) :: starEach [] X.env := by rfl) (hpl2 : (backTo pos2 (starEach [] X.env)).any (·.1) = false := by rfl) :
    JE X c E (.Call (.Name x2 p2) [.Call (.Name x p) (e :: es) [] pos] [] pos2) (sCupCall g f sa) := by
  obtain ⟨fa, fd, F, hm, hkp, hb, _⟩ := D.ex
  obtain ⟨fa2, fd2, F2, hm2, hkp2, hb2, _⟩ := D2.ex
  exact je_cupcall F F2 (hr.mono hk) (hr.mono hk2) hgd hm hm2 hkp hkp2 hb hb2 passE ha hg hg2 hd hd2 he hpl he2 hpl2
end
end Eng

namespace Eng
open PySem PySem.Spec PyProof.Rows L2 Evl
variable [Tb]

/-! ### raise C(..) -/
def sRaise (C : Addr) (ns : List Str) (sa : SA) : SS := fun s => (sa s).bind fun ds s1 => if ds.length = ns.length then .exc ⟨C, xfs ns ds⟩ s1 else .bad
section
variable {X : Cx} {c : Cc} {E : XS} {pos p pos2 : Pos} {x : Str} {C : Addr} {B newId initId : String} {bmB : List Value} {ns : List Str}
theorem mk_exc {pins : List (Addr × Obj)} {σ : L2.St} {H1 B0 H0 B1 : Hp} {s0 s1 : S} {sh : Shared} {us : List Value} {vs : List V} {ds : List D} {Q : XK} (T : PySem.EX.ExT X.prog X.K X.mg x C B newId initId bmB ns) (hr : Room 1 X.A) (hz : ns.length ≤ 1000)
    (I : Inv X pins σ H1 sh) (A1 : Aft X.K c B0 H0 σ s0 B1 H1 s1) (r : Vals vs us) (dq : DqAll X.K B1 vs ds) (hl : ds.length = ns.length)
    (q : ∀ cls dd B' H', Aft X.K c B0 H0 σ s0 B' H' s1 → XcOk X.K B' H' ⟨C, xfs ns ds⟩ cls dd → Q cls dd H') : wpAny (model X.prog X.w) X.A (call (.ref C) us) (MkP X pins σ Q) X.xe sh := by
  have hlu : us.length = ns.length := by rw [← r.length, dq.length, hl]
  have dqf : DqFs X.K B1 (ns.zip vs).reverse (xfs ns ds) := (dq_zip ns dq).rev
  have kv : KV (ns.zip vs).reverse (ns.zip us).reverse := kv_rev (kv_zip ns r)
  have hbare := I.bare
  obtain ⟨hp, g, dr, tk, os⟩ := sh
  refine wpAny_call (PySem.EX.make_run T I.mod hlu hz I.bk (by have := hr.dp; omega) fun h' tk' e M => ?_)
  show MkP X pins σ Q (.ref e) ⟨h', g, dr, tk', os⟩
  have hn : H1 e = none := I.hok.fresh M.new
  obtain ⟨L, t1, hE⟩ := M.at_
  obtain ⟨G, g1, g2⟩ := restrict h' fun b => decide (b ≠ e)
  have gk : ∀ b, b ≠ e → G.get? b = h'.get? b := fun b hb => g1 b (decide_eq_true hb)
  have ge : G.get? e = none := g2 e (by simp)
  have old : ∀ b o, hp.get? b = some o → G.get? b = some o := fun b o q => (gk b (Nat.ne_of_lt (Nat.lt_of_lt_of_le (Heap.lt_size q) M.new))).trans (M.keep b o q)
  have up : ∀ b o, G.get? b = some o → h'.get? b = some o := fun b o z => by
    by_cases hb : b = e
    · rw [hb, ge] at z; cases z
    · exact (gk b hb).symm.trans z
  rcases hE with ⟨em, he⟩ | ⟨dx, d0, d1, d2, he, hd⟩
  · have J : Inv X pins σ H1 ⟨G, g, dr, tk', os⟩ := I.kept (t' := tk') old
    have : xfs ns ds = [] := by
      have z : (ns.zip us).length = 0 := by rw [← List.length_reverse, em]; rfl
      have z2 : (ns.zip ds).length = 0 := by rw [List.length_zip] at z ⊢; omega
      unfold xfs
      rw [List.length_eq_zero_iff.mp z2]
      rfl
    exact ⟨e, _, _, ⟨G, g, dr, tk', os⟩, H1, .ref C, none, rfl, J, up, ge, he, ⟨rfl, rfl⟩, rfl, rfl, hn, rfl, hbare, raises_own T.exC T.tyC, q _ _ _ _ A1 ⟨rfl, .inl ⟨rfl, this⟩⟩⟩
  · have hnd : H1 dx = none := I.hok.fresh d0
    have ob : ObjOk X.prog X.w (upd H1 dx (.xd (ns.zip vs).reverse)) G dx (.xd (ns.zip vs).reverse) := ⟨_, hd.at (fun o z => (gk dx d1).trans z), kv_look kv⟩
    have J : Inv X pins σ (upd H1 dx (.xd (ns.zip vs).reverse)) ⟨G, g, dr, tk', os⟩ := I.laid (t' := tk') old d0 ob
    have A2 := A1.trans (Aft.newB (o := .xd (ns.zip vs).reverse) A1.si hnd)
    refine ⟨e, _, _, ⟨G, g, dr, tk', os⟩, _, .ref C, some dx, rfl, J, up, ge, he, ⟨rfl, rfl⟩, rfl, rfl, by rw [upd_ne (Ne.symm d1)]; exact hn, rfl, hbare, raises_own T.exC T.tyC, q _ _ _ _ A2 ⟨rfl, .inr ⟨dx, _, rfl, upd_same, dqf.mono (Ex.new (A1.si.bnone hnd))⟩⟩⟩
def tRs (K : PySem.W.Frag) (c : Cc) (E : XS) (C : Addr) (ns : List Str) (sa : SA) : L2.St → Hp → XK → Prop := fun σ H Q => trA K c E sa σ H fun vs H1 => ∃ B0 H0 s0 B1 s1 ds, Aft K c B0 H0 σ s0 B1 H1 s1 ∧ DqAll K B1 vs ds ∧ ds.length = ns.length ∧
  ∀ cls dd B' H', Aft K c B0 H0 σ s0 B' H' s1 → XcOk K B' H' ⟨C, xfs ns ds⟩ cls dd → Q cls dd H'
theorem js_raise {e : Expr} {es : List Expr} {sa : SA} (T : PySem.EX.ExT X.prog X.K X.mg x C B newId initId bmB ns) (hr : Room 1 X.A) (tk : Takes X fun cls d σ H => E σ cls d H) (ha : JA X c E (e :: es) sa) (hc : X.calm = true := by rfl) (hz : ns.length ≤ 1000 := by decide) (hg : Gl X x := by rfl) (hd : (x == ("__debug__" : Str)) = false := by decide)
    (he : starEach (e :: es) X.env = (false, eval e X.env) :: starEach es X.env := by rfl) (hpl : (backTo pos (starEach es X.env)).any (·.1) = false := by rfl) : JS X c E (.Raise (some (.Call (.Name x p) (e :: es) [] pos)) none pos2) (sRaise C ns sa) := by
  have pm : PMk X (.Call (.Name x p) (e :: es) [] pos) (tRs X.K c E C ns sa) := by
    intro pins s σ H Q I h
    refine wpAny_Call_Name_kw (ld_glob I hg T.gC ?_ hd)
    refine PySem.W.callWith_K (h₀ := X.base) I.ok.mod.kin T.kC (thn (ha.run pos pins s σ H _ I h) fun us s1 ⟨vs, H1, I1, r1, B0, H0, s0, B1, s2, ds, A1, dq, hl, q⟩ => ⟨I1.kIn, ?_⟩) he hpl
    exact mk_exc T hr hz I1 A1 r1 dq hl q
  refine ps_imp (ps_raise hc tk pm) fun D σ H ⟨B, s, I, q⟩ => ?_
  refine trA_mono (bindAS I q) fun vs H1 ⟨B1, s1, ds, A1, dq, q1⟩ => ?_
  split at q1
  · rename_i z
    exact ⟨B, H, s, B1, s1, ds, A1, dq, z, fun cls dd B' H' A' ok => q1 cls dd B' H' σ A'.toS ok⟩
  · exact q1.elim
theorem js_raise0 (T : PySem.EX.ExT X.prog X.K X.mg x C B newId initId bmB []) (hr : Room 1 X.A) (tk : Takes X fun cls d σ H => E σ cls d H) (hc : X.calm = true := by rfl) (hg : Gl X x := by rfl) (hd : (x == ("__debug__" : Str)) = false := by decide) : JS X c E (.Raise (some (.Call (.Name x p) [] [] pos)) none pos2) (sRaise C [] sNil) := by
  have pm : PMk X (.Call (.Name x p) [] [] pos) (fun σ H Q => ∃ B0 s0, Sim X.K c B0 H σ s0 ∧ ∀ cls dd B' H', Aft X.K c B0 H σ s0 B' H' s0 → XcOk X.K B' H' ⟨C, xfs [] []⟩ cls dd → Q cls dd H') := by
    intro pins s σ H Q I ⟨B0, s0, I0, q⟩
    refine wpAny_Call_Name_kw (ld_glob I hg T.gC ?_ hd)
    refine PySem.W.callWith_K0 I.kIn T.kC ?_
    exact mk_exc (us := []) (vs := []) (ds := []) T hr (Nat.zero_le _) I (.refl I0) .nil .nil rfl q
  exact ps_imp (ps_raise hc tk pm) fun D σ H ⟨B, s, I, q⟩ => ⟨B, s, I, fun cls dd B' H' A' ok => q cls dd B' H' σ A'.toS ok⟩
end

/-! ### defs that may raise -/
def defPX (n ar : Nat) (ss : SS) : FD := fun _ ds => if ds.length = ar ∧ ar ≤ n then match ss ⟨ds.map .val ++ List.replicate (n - ar) .no, (0, 0, 0)⟩ with
  | .ok (.ret d) _ => .ok d (0, 0, 0)
  | .ok .next _ => .ok .non (0, 0, 0)
  | .exc x _ => .exc x (0, 0, 0)
  | _ => .bad else .bad
theorem defPX_ar {n ar : Nat} {ss : SS} (cup : Cup) (ds : List D) (h : ds.length ≠ ar) : defPX n ar ss cup ds = .bad := by
  unfold defPX
  rw [if_neg (fun z => h z.1)]
/-- a def that keeps its promise, exceptions among it -/
structure DfX (P : Program) (w : World) (K : PySem.W.Frag) (mg : Str → Option Value) (base : Heap) (x : Str) (k : Nat) (ps : List Str) (sp : Sp) : Prop where
  ex : ∃ f fd, FnG P w K mg base (L2.CX P w) k f fd ps sp ∧ mg x = some (.ref f) ∧ PySem.W.keepIn K (.ref f) = true ∧ Binds K fd ps [] ∧ KwB K fd ps
section
variable {P : Program} {w : World} {K : PySem.W.Frag} {mg : Str → Option Value} {base : Heap} {k : Nat} {ps N : List Str} {x : Str} {st : Stmt}
theorem takes_cx {qual : Str} {sc : Scope} {f : Addr} {cdv : Value} {A : Around} {outer : List Env} {s : Shared} {H : Hp} {E : XK} : Takes (cxOf (L2.CX P w) P w K mg base N qual sc f cdv A outer s H E) (fun cls d _ H => E cls d H) := takes_of rfl rfl rfl rfl
theorem dfPX {ss : SS} (R : Raw K mg x st ps) (S : FnScope N ps (defScope st))
    (hbody : ∀ (f : Addr) (cdv : Value) (A : Around) (outer : List Env) (s : Shared) (H : Hp) (E : XK), Room k (A.deeper (envOfC x (defScope st) s.heap.objs.size f cdv)) → A.guards = some [] → Takes (cxOf (L2.CX P w) P w K mg base N x (defScope st) f cdv A outer s H E) (fun cls d _ H => E cls d H) →
      JSs (cxOf (L2.CX P w) P w K mg base N x (defScope st) f cdv A outer s H E) cN (fun _ => E) (defBody st) ss) : DfX P w K mg base x (k + 1) ps (spP K (defPX N.length ps.length ss)) := by
  obtain ⟨f, fd, F, hm, hk, hb, hkb⟩ := R.ex
  refine ⟨f, fd, fnG_mk F S (len_all defPX_ar) fun cdv A outer s H vs Q E hr hg h => ⟨_, hbody f cdv A outer s H E hr hg takes_cx, ?_⟩, hm, hk, hb, hkb⟩
  obtain ⟨B, ds, e, dq, tb, h⟩ := h
  unfold defPX at h
  by_cases z : ds.length = ps.length ∧ ps.length ≤ N.length
  · rw [if_pos z] at h
    have I : Sim K cN B H (L2.start N vs) ⟨ds.map .val ++ List.replicate (N.length - ds.length) .no, (0, 0, 0)⟩ := sim_P tb e dq (by omega)
    rw [z.1] at I
    refine ⟨B, _, I, ?_⟩
    have no : ∀ a, ¬ Own (ds.map Sl.val ++ List.replicate (N.length - ps.length) Sl.no) (L2.start N vs) a := nown_start (vs := vs) no_own_P _
    cases q : ss ⟨ds.map .val ++ List.replicate (N.length - ps.length) .no, (0, 0, 0)⟩ with
    | ok o s' =>
      rw [q] at h
      cases o with
      | next => exact fun B' H' σ' A => h .non B' H' (faft_of A no) .non
      | ret d => exact fun v B' H' σ' A dq => h v B' H' (faft_of A no) dq
      | brk => exact h.elim
      | cont => exact h.elim
    | exc y s' => rw [q] at h; exact fun cls dd B' H' σ' A ok => h cls dd B' H' (faft_of A no) ok
    | bad => rw [q] at h; exact h.elim
  · rw [if_neg z] at h
    exact h.elim
end
section
variable {X : Cx} {c : Cc} {E : XS} {pos p pos2 p2 : Pos} {k k2 n : Nat} {ps ps2 : List Str} {g : FN} {f : FD} {x x2 : Str} {e : Expr} {es : List Expr} {sa : SA}
theorem je_callDX (D : DfX X.prog X.w X.K X.mg X.base x k ps (spP X.K f)) (hr : Room n X.A) (hgd : X.A.guards = some []) (tk : Takes X fun cls d σ H => E σ cls d H) (ha : JA X c E (e :: es) sa) (hk : k ≤ n := by decide) (hg : Gl X x := by rfl) (hd : (x == ("__debug__" : Str)) = false := by decide)
    (he : starEach (e :: es) X.env = (false, eval e X.env) :: starEach es X.env := by rfl) (hpl : (backTo pos (starEach es X.env)).any (·.1) = false := by rfl) : JE X c E (.Call (.Name x p) (e :: es) [] pos) (sCall f sa) := by
  obtain ⟨fa, fd, F, hm, hkp, hb, _⟩ := D.ex
  exact je_call F (hr.mono hk) hgd hm hkp hb (fun σ => passAt tk σ) ha hg hd he hpl
end
end Eng

/-! try, with clauses of one name -/
namespace Eng
open PySem PySem.Spec PyProof.Rows L2 Evl
variable [Tb]

/-- what the clauses wish, one after the other -/
def wAsM (K : PySem.W.Frag) (Wout : WX) (D : Ends) (i : Nat) : List (Value × (Addr → Value → Option Addr → TS)) → WX
  | [] => Wout
  | (cv, ts) :: r => fun cls d σ H => ∃ b, PySem.W.exmOne K cls cv = some b ∧
    (b = true → ∀ a, H a = none → ts a cls d { nx := fun σ' H' => D.nx (σ'.set i none) H', rt := D.rt, bk := fun σ' H' => D.bk (σ'.set i none) H', ct := fun σ' H' => D.ct (σ'.set i none) H' } (σ.set i (some (.ref a))) H) ∧ (b = false → wAsM K Wout D i r cls d σ H)
inductive HdA (X : Cx) (n : Str) : List ExceptHandler → List (Value × (Addr → Value → Option Addr → TS)) → Prop
  | nil : HdA X n [] []
  | cons {x : Str} {cv : Value} {ts : Addr → Value → Option Addr → TS} {b₀ : Stmt} {suite : List Stmt} {np pos' : Pos} {hds : List ExceptHandler} {l : List (Value × (Addr → Value → Option Addr → TS))} (hc : Names X x cv)
      (hsu : ∀ (a : Addr) (oe : Obj) (cls : Value) (d : Option Addr) (pn : List (Addr × Obj)), Zc cls d oe → (∃ vs, oe.data = .fields vs) → PSs (X.suite a ((a, oe) :: pn)) (b₀ :: suite) (ts a cls d)) (r : HdA X n hds l) :
      HdA X n (.ExceptHandler (some (.Name x np)) (some n) (b₀ :: suite) pos' :: hds) ((cv, ts) :: l)
section
variable {X : Cx} {n : Str} {i : Nat} {body : List Stmt} {h₀ : ExceptHandler} {hds : List ExceptHandler} {l : List (Value × (Addr → Value → Option Addr → TS))} {pos : Pos} {tb : WX → TS} {Wout : WX}
theorem ps_try_asM (hs : X.stack = X.env :: X.outer) (hf : X.env.frame = some X.env.locals) (hN : X.N.Nodup) (hi : X.N[i]? = some n) (hln : X.env.kindOf n = some .local) (tk : Takes X Wout)
    (hb : ∀ (W : WX) (pn : List (Addr × Obj)) (xe : Value → Shared → Prop), Takes (X.tr pn xe) W → PassesOwn (model X.prog X.w) X.A X.env xe → PSs (X.tr pn xe) body (tb W))
    (hh : HdA X n (h₀ :: hds) l) : PS X (.Try body (h₀ :: hds) [] [] pos) (fun D σ H => tb (wAsM X.K Wout D i l) D σ H) := by
  refine ⟨fun pins s σ H D I h => ?_⟩
  have ok := I.ok
  have hfr : X.A.frames = some (X.env :: X.outer) := by rw [ok.frames, hs]
  have hloc : Loc X.env.scope n := .inl hln
  refine wpAny_Try_except ?_
  refine wpAny_mono ((hb (wAsM X.K Wout D i l) (X.pn ++ pins) (fun e s₁ => wpAny (model X.prog X.w) X.A (noteFrame e X.env) (fun _ s₂ => wpAny (model X.prog X.w) X.A (setFlight e none) (fun _ s₃ =>
    wpAny (model X.prog X.w) X.A (handleBy e X.env (h₀ :: hds)) (SP X pins D) X.xe s₃) X.xe s₂) X.xe s₁) (fun u s' xx => ?_) PassesOwn.looking).run [] s σ H D (I.toTry _) h) (fun f s1 hsp => ?_) (fun e s1 he => he)
  · obtain ⟨a, B, sI, pins', σ', H', cls, d, rfl, J', nb, up, sky, na, os, ag, w⟩ := xx
    have J : Inv X pins σ' H' sI := J'.ofTry ok
    have sky' : Sky B (X.env :: X.outer) a (Zc cls d) X.env.locals s'.heap := by rw [← hs]; exact sky
    show wpAny (model X.prog X.w) X.A (noteFrame (.ref a) X.env) _ _ _
    refine Sky.land Zc.steady hfr hf sky' fun h3 fl3 up3 => ?_
    have J3 : Inv X pins σ' H' { s' with heap := h3 } := J.landed nb fl3.1 (up.trans up3) os ag
    obtain ⟨oe3, vs3, he3, hz3, hd3⟩ := fl3.there
    have notFr : ∀ {h : Heap} {o : Obj} {vs : Array Value}, h.FunFrames B (X.env :: X.outer) → h.get? a = some o → o.data = .fields vs → a ∉ frs (X.env :: X.outer) := fun {h o vs} ff e dd hm => by
      obtain ⟨_, o', e', hnf⟩ := ff.mem hm
      rw [e] at e'; cases e'
      exact hnf _ dd
    have nfr := notFr fl3.2.2.1 he3 hd3
    have nL : a ≠ X.env.locals := fun z => nfr (List.mem_filterMap.mpr ⟨X.env, List.mem_cons_self, by rw [hf, z]⟩)
    have nF : a ∉ X.fs := fun hm => by
      obtain ⟨e, he, q⟩ := List.mem_filterMap.mp hm
      exact nfr (List.mem_filterMap.mpr ⟨e, List.mem_cons_of_mem _ he, q⟩)
    have S3 := J3.suite he3 hd3 na nL nF
    have go : ∀ {hds' : List ExceptHandler} {l' : List (Value × (Addr → Value → Option Addr → TS))}, HdA X n hds' l' → wAsM X.K Wout D i l' cls d σ' H' →
        wpAny (model X.prog X.w) X.A (handleBy (.ref a) X.env hds') (SP X pins D) X.xe { s' with heap := h3 } := by
      intro hds' l' hk
      induction hk with
      | nil =>
        intro w
        refine wpAny_handleBy_nil ?_
        obtain ⟨k1, k2, k3, oe, vs, T, oT, ts', he, hz, hd, h1, hr⟩ := id fl3
        unfold PySem.passOn
        refine wpAny_bind (wpAny_field he hd h1 ?_)
        rw [if_neg (show ¬ ((Value.ref T == Value.none) = true) from by simp)]
        have fin : wpAny (model X.prog X.w) X.A (setFlight (.ref a) X.env.frame) (fun _ s4 => wpAny (model X.prog X.w) X.A (throw (.ref a) : Sem Flow) (SP X pins D) X.xe s4) X.xe { s' with heap := h3 } := by
          rw [hf]
          refine HandSPX.setFlight_upZ fl3 fun h4 hh4 up4 => wpAny_throw (tk _ _ ?_)
          exact ⟨a, B, sI, pins, σ', H', cls, d, rfl, J, nb, (up.trans up3).trans up4, .inr (.inr (by rw [hs]; exact hh4)), na, os, ag, w⟩
        first
          | exact wpAny_bind (wpAny_pure (wpAny_bind fin))
          | exact wpAny_bind fin
      | @cons x cv ts b₀ suite np pos' hds2 l2 hc hsu r ih =>
        intro w
        obtain ⟨b, hb1, hyes, hno⟩ := w
        refine wpAny_handleBy_cons (codeAny_handlers_test ?_) (by intro q; cases q)
        have LT : PySem.W.Looks (model X.prog X.w) h3 (typeOf (.ref a)) cls := fun A Q E s k q => wpAny_typeOf_ref (k _ _ he3) (by rw [hz3.1]; exact q)
        have LM := PySem.W.exm_one (M := model X.prog X.w) (J3.kIn) LT hb1
        have test : ∀ {Q : Value → Shared → Prop} {E : Value → Shared → Prop}, Q cv { s' with heap := h3 } → wpAny (model X.prog X.w) (X.A.mark (some (.ref a))) (eval (.Name x np) X.env) Q E { s' with heap := h3 } := fun {Q E} q => by
          obtain ⟨hg, hdbg, hm | ⟨hm, hv, hnn⟩⟩ := hc
          · exact ld_glob (X := X.suite a ((a, oe3) :: (X.pn ++ pins))) S3 hg hm q hdbg
          · exact ld_blt (X := X.suite a ((a, oe3) :: (X.pn ++ pins))) S3 hg hm hv q hnn hdbg
        refine test (LM.here ?_)
        cases b with
        | true =>
          refine codeAny_handlers_suite_as ?_
          refine HandSPX.lands_againZ fl3 fun h4 fl4 up4 => ?_
          have J4 : Inv X pins σ' H' { s' with heap := h4 } := J.landed nb fl4.1 ((up.trans up3).trans up4) os ag
          obtain ⟨oe4, vs4, he4, hz4, hd4⟩ := fl4.there
          have S4 := J4.suite he4 hd4 na nL nF
          refine store_ok (X := X.suite a ((a, oe4) :: (X.pn ++ pins))) (v := .ref a) S4 hN hi hloc rfl (fun s5 S5 => ?_) (.inr hln)
          refine wpAny_mono ((hsu a oe4 cls d (X.pn ++ pins) hz4 ⟨_, hd4⟩).run [] s5 _ H' _ S5 (hyes rfl a na)) (fun f s6 hsp => ?_) (fun _ _ z => False.elim z)
          have end_ : ∀ {σ6 : L2.St} {H6 : Hp} {Q : Shared → Prop}, Inv (X.suite a ((a, oe4) :: (X.pn ++ pins))) [] σ6 H6 s6 → (∀ s7, Inv X pins (σ6.set i none) H6 s7 → Q s7) →
              wpAny (model X.prog X.w) X.A (do bindName X.env n .none; unbindBehindTheSuite X.env n pos') (fun _ s7 => Q s7) X.xe s6 := fun {σ6 H6 Q} S6 hq => gone_ok (S6.unsuite ok) hN hi hln hq
          cases f with
          | next =>
            obtain ⟨σ6, H6, S6, q6⟩ := hsp
            exact end_ S6 fun s7 J7 => ⟨_, _, J7, q6⟩
          | brk =>
            obtain ⟨σ6, H6, S6, q6⟩ := hsp
            exact end_ S6 fun s7 J7 => ⟨_, _, J7, q6⟩
          | cont =>
            obtain ⟨σ6, H6, S6, q6⟩ := hsp
            exact end_ S6 fun s7 J7 => ⟨_, _, J7, q6⟩
          | ret u =>
            obtain ⟨v6, σ6, H6, S6, r6, q6⟩ := hsp
            exact end_ S6 fun s7 J7 => ⟨_, _, _, J7, r6, q6⟩
        | false =>
          show wpAny _ X.A (handleBy (.ref a) X.env hds2) _ _ _
          exact ih (hno rfl)
    exact go hh w
  · cases f with
    | next =>
      obtain ⟨σ', H', J', q⟩ := hsp
      exact wpAny_execs_nil ⟨σ', H', J'.ofTry ok, q⟩
    | brk =>
      obtain ⟨σ', H', J', q⟩ := hsp
      exact ⟨σ', H', J'.ofTry ok, q⟩
    | cont =>
      obtain ⟨σ', H', J', q⟩ := hsp
      exact ⟨σ', H', J'.ofTry ok, q⟩
    | ret u =>
      obtain ⟨v, σ', H', J', r, q⟩ := hsp
      exact ⟨v, σ', H', J'.ofTry ok, r, q⟩
end
end Eng

namespace Eng
open PySem PySem.Spec PyProof.Rows L2 Evl
variable [Tb]

/-! ### the context of a clause -/
abbrev Cc.hold (c : Cc) (a : Addr) (cls : Value) (d : Option Addr) : Cc := { c with ex := some (a, cls, d) }
def noX (e : List Sl) : Bool := e.all fun sl => match sl with
  | .xcp _ => false
  | _ => true
section
variable {K : PySem.W.Frag} {c c' : Cc} {B H B' H' : Hp} {σ σ' : L2.St} {s s' : S} {e e' : List Sl}
theorem Stp.cc (h : c'.cup = c.cup) (t : Stp c B H σ e B' H' σ' e') : Stp c' B H σ e B' H' σ' e' := ⟨t.bb, fun a o z nt n k => t.hh a o z nt n (fun w => k (by rw [h]; exact w)), t.gr, t.ow, t.th⟩
theorem noX_get {i : Nat} {x : Xc} (h : noX e = true) (q : e[i]? = some (.xcp x)) : False := by
  have z := (List.all_eq_true.mp h) _ (List.mem_of_getElem? q)
  cases z
theorem Sim.cc (h : c'.cup = c.cup) (n : noX s.env = true) (I : Sim K c B H σ s) : Sim K c' B H σ s := ⟨I.ex, I.len, fun i sl q => by
  have z := I.slot i sl q
  cases sl with
  | no => trivial
  | val d => exact z
  | own ds => exact z
  | cup => obtain ⟨a, q1, q2⟩ := z; exact ⟨a, h.trans q1, q2⟩
  | xcp x => exact (noX_get n q).elim, I.dis, fun a q => I.cu a (h.symm.trans q), I.tb⟩
/-- a slot that is set to something that is no list of one's own -/
theorem set_any (I : Sim K c B H σ s) {i : Nat} {v : Option V} {sl : Sl} (no : ∀ ds, sl ≠ .own ds) (ok : (σ.set i v).length = σ.length → (∀ j, j = i → j < σ.length → (σ.set i v)[j]? = some v) → SlotOk K c B H (σ.set i v) i sl) : AftS K c B H σ s B H (σ.set i v) (setSl s i sl) := by
  have ow : ∀ a, Own (s.env.set i sl) (σ.set i v) a → Own s.env σ a := fun a ⟨j, es, h1, h2⟩ => by
    rcases set_get h1 with ⟨rfl, e⟩ | ⟨n, e⟩
    · exact absurd e.symm (no es)
    · rw [setV_ne n] at h2
      exact ⟨j, es, e, h2⟩
  refine ⟨⟨Ex.refl B, fun _ _ h _ _ _ => h, fun a o h => .inl (by rw [h]; simp), fun a z => .inl (ow a z), fun a o h t => ⟨o, h, t⟩⟩, ⟨I.ex, by simpa [setSl] using I.len, fun j sl' hj => ?_, fun j k ds es a hj hk h1 h2 => ?_, fun a ha => ?_, I.tb⟩⟩
  · rcases set_get hj with ⟨rfl, e⟩ | ⟨n, e⟩
    · subst e
      refine ok (by simp) fun j' e' hl => ?_
      subst e'
      rw [List.getElem?_set_self hl]
    · have z := I.slot j sl' e
      cases sl' with
      | no => trivial
      | val d' => obtain ⟨v', q1, q2⟩ := z; exact ⟨v', by rw [setV_ne n]; exact q1, q2⟩
      | own ds => obtain ⟨a, vs, q1, q2⟩ := z; exact ⟨a, vs, by rw [setV_ne n]; exact q1, q2⟩
      | cup => obtain ⟨a, q1, q2⟩ := z; exact ⟨a, q1, by rw [setV_ne n]; exact q2⟩
      | xcp x => obtain ⟨a, cl, dd, q0, q1, q2⟩ := z; exact ⟨a, cl, dd, q0, by rw [setV_ne n]; exact q1, q2⟩
  · rcases set_get hj with ⟨_, e⟩ | ⟨n, e⟩
    · exact absurd e.symm (no ds)
    · rcases set_get hk with ⟨_, e'⟩ | ⟨n', e'⟩
      · exact absurd e'.symm (no es)
      · rw [setV_ne n] at h1
        rw [setV_ne n'] at h2
        exact I.dis j k ds es a e e' h1 h2
  · obtain ⟨q1, q2, q3⟩ := I.cu a ha
    exact ⟨q1, q2, fun z => q3 (ow a z)⟩
theorem set_no (I : Sim K c B H σ s) {i : Nat} {v : Option V} : AftS K c B H σ s B H (σ.set i v) (setSl s i .no) := set_any I (fun _ z => nomatch z) fun _ _ => trivial
end

/-! ### try -/
structure Clz where
  cv : Value
  tab : Addr → Option Bool
  ss : SS
def hL (i : Nat) : List Clz → Xc → S → Res Out
  | [], x, s => .exc x s
  | z :: r, x, s => match z.tab x.cls with
    | some true => if noX s.env = true ∧ i < s.env.length then (match z.ss (setSl s i (.xcp x)) with
        | .ok o s2 => if noX (setSl s2 i .no).env = true then .ok o (setSl s2 i .no) else .bad
        | _ => .bad) else .bad
    | some false => hL i r x s
    | none => .bad
def sTry (i : Nat) (sb : SS) (hs : List Clz) : SS := fun s => match sb s with
  | .exc x s1 => hL i hs x s1
  | r => r
def lOf (K : PySem.W.Frag) (c : Cc) (hs : List Clz) : List (Value × (Addr → Value → Option Addr → TS)) := hs.map fun z => (z.cv, fun a cls d => trS K (c.hold a cls d) EN z.ss)
section
variable {X : Cx} {c : Cc} {E : XS} {n : Str} {i : Nat} {body : List Stmt} {h₀ : ExceptHandler} {hds : List ExceptHandler} {pos : Pos}
theorem hand_run {K : PySem.W.Frag} {B H B1 H1 : Hp} {σ σ1 : L2.St} {s s1 : S} {D : Ends} {hs : List Clz} {x : Xc} {cls : Value} {dd : Option Addr} (ht : ∀ z ∈ hs, ∀ C b, z.tab C = some b → PySem.W.exmOne K (.ref C) z.cv = some b) (A : AftS K c B H σ s B1 H1 σ1 s1) (ok : XcOk K B1 H1 x cls dd)
    (q : PostS K c E B H σ s (hL i hs x s1) D) : wAsM K (fun cls d σ H => E σ cls d H) D i (lOf K c hs) cls dd σ1 H1 := by
  induction hs with
  | nil => exact q cls dd B1 H1 σ1 A ok
  | cons z r ih =>
    unfold hL at q
    have e1 := ok.1
    cases t : z.tab x.cls with
    | none => simp only [t] at q; exact q.elim
    | some b =>
      refine ⟨b, by rw [e1]; exact ht z List.mem_cons_self _ _ t, fun hb a na => ?_, fun hb => ?_⟩
      · subst hb
        simp only [t] at q
        split at q
        · rename_i hn
          obtain ⟨hn, hi⟩ := hn
          have I1 : Sim K (c.hold a cls dd) B1 H1 σ1 s1 := Sim.cc (c := c) (c' := c.hold a cls dd) rfl hn A.si
          have hiσ : i < σ1.length := by rw [A.si.len]; exact hi
          have A2 : AftS K (c.hold a cls dd) B1 H1 σ1 s1 B1 H1 (σ1.set i (some (.ref a))) (setSl s1 i (.xcp x)) := set_any I1 (fun _ z => nomatch z) fun _ g => ⟨a, cls, dd, rfl, g i rfl hiσ, ok⟩
          refine ⟨B1, _, A2.si, ?_⟩
          have fin : ∀ {B' H' : Hp} {σ' : L2.St} {s2 : S} {v : Option V}, AftS K (c.hold a cls dd) B1 H1 (σ1.set i (some (.ref a))) (setSl s1 i (.xcp x)) B' H' σ' s2 → noX (setSl s2 i .no).env = true → AftS K c B H σ s B' H' (σ'.set i none) (setSl s2 i .no) := fun {B' H' σ' s2 v} A3 n2 => by
            have A4 := (A2.trans A3).trans (set_no A3.si (i := i) (v := none))
            exact ⟨A.st.trans (Stp.cc (c := c.hold a cls dd) (c' := c) rfl A4.st), Sim.cc (c := c.hold a cls dd) (c' := c) rfl n2 A4.si⟩
          cases z2 : z.ss (setSl s1 i (.xcp x)) with
          | ok o s2 =>
            simp only [z2] at q
            split at q
            · rename_i n2
              cases o with
              | next => exact fun B' H' σ' A3 => q B' H' _ (fin (v := none) A3 n2)
              | brk => exact fun B' H' σ' A3 => q B' H' _ (fin (v := none) A3 n2)
              | cont => exact fun B' H' σ' A3 => q B' H' _ (fin (v := none) A3 n2)
              | ret d => exact fun v B' H' σ' A3 dq => q v B' H' _ (fin (v := none) A3 n2) dq
            · exact q.elim
          | exc y s2 => simp only [z2] at q; exact q.elim
          | bad => simp only [z2] at q; exact q.elim
        · exact q.elim
      · subst hb
        simp only [t] at q
        exact ih (fun z hz => ht z (List.mem_cons_of_mem _ hz)) q
theorem js_try {sb : SS} {hs : List Clz} (hst : X.stack = X.env :: X.outer) (hf : X.env.frame = some X.env.locals) (hN : X.N.Nodup) (hi : X.N[i]? = some n) (hln : X.env.kindOf n = some .local) (tk : Takes X fun cls d σ H => E σ cls d H)
    (hb : ∀ (W : WX) (pn : List (Addr × Obj)) (xe : Value → Shared → Prop), Takes (X.tr pn xe) W → PassesOwn (model X.prog X.w) X.A X.env xe → JSs (X.tr pn xe) c (fun σ cls d H => W cls d σ H) body sb)
    (ht : ∀ z ∈ hs, ∀ C b, z.tab C = some b → PySem.W.exmOne X.K (.ref C) z.cv = some b) (hh : HdA X n (h₀ :: hds) (lOf X.K c hs)) : JS X c E (.Try body (h₀ :: hds) [] [] pos) (sTry i sb hs) := by
  refine ps_imp (ps_try_asM (tb := fun W => trS X.K c (fun σ cls d H => W cls d σ H) sb) hst hf hN hi hln tk hb hh) fun D σ H ⟨B, s, I, q⟩ => ⟨B, s, I, ?_⟩
  unfold sTry at q
  cases e : sb s with
  | ok o s1 =>
    rw [e] at q
    cases o <;> exact q
  | exc x s1 =>
    rw [e] at q
    exact fun cls dd B' H' σ' A ok => hand_run ht A ok q
  | bad => rw [e] at q; exact q
end
/-! ### the exception that is handled -/
/-- e.f -/
def sFldX (i : Nat) (cs : List Addr) (f : Str) : SE := fun s => match s.env[i]? with
  | some (.xcp x) => if x.cls ∈ cs then (match x.fs.lookup f with
    | some d => .ok (.dat d) s
    | none => .bad) else .bad
  | _ => .bad
/-- isinstance(e, C) -/
def sIsX (i : Nat) (tab : Addr → Option Bool) : SE := fun s => match s.env[i]? with
  | some (.xcp x) => (match tab x.cls with
    | some b => .ok (.dat (.bl b)) s
    | none => .bad)
  | _ => .bad
section
variable {X : Cx} {c : Cc} {E : XS} {a : Addr} {oe : Obj} {cls : Value} {d : Option Addr} {pn : List (Addr × Obj)} {pos p p2 p3 : Pos} {n : Str}
theorem held_inst {K : PySem.W.Frag} {pins : List (Addr × Obj)} {σ : L2.St} {B H : Hp} {s : Shared} {x : Xc} (I : Inv (X.suite a ((a, oe) :: pn)) pins σ H s) (e : Ex B H) (hz : Zc cls d oe) (hf : ∃ vs, oe.data = .fields vs) (ok : XcOk K B H x cls d) : ∃ od, PySem.W.InstAt s.heap a oe x.cls od := by
  obtain ⟨ha, _⟩ := I.pin (a, oe) (List.mem_append_left _ List.mem_cons_self)
  obtain ⟨vs, hd⟩ := hf
  have hc : oe.cls = .ref x.cls := hz.1.trans ok.1
  have nc : PySem.W.notCls oe = true := by unfold PySem.W.notCls; rw [hd] <;> rfl
  rcases ok.2 with ⟨e1, _⟩ | ⟨dx, fs, e1, e2, _⟩
  · exact ⟨none, ha, hc, nc, by rw [hz.2, e1]; trivial⟩
  · have hx : ObjOk X.prog X.w H s.heap dx (.xd fs) := I.hok dx _ (e _ _ e2)
    obtain ⟨mA, hns, hr⟩ := hx
    obtain ⟨od, ho, hl⟩ := lookIn_ns hns
    exact ⟨some od, ha, hc, nc, by rw [hz.2, e1]; exact ho⟩
theorem je_fldX (i : Nat) {cs : List Addr} {f : Str} (hx : c.ex = some (a, cls, d)) (hz : Zc cls d oe) (hf : ∃ vs, oe.data = .fields vs) (hT : ∀ C ∈ cs, ExI X.K C ∧ PySem.W.findIn X.K (.ref C) f = some none) (hN : X.N[i]? = some n := by rfl) (hv : Vis X.env.scope n := by first | exact Or.inl rfl | exact Or.inr (Or.inl rfl) | exact Or.inr (Or.inr rfl)) (hd1 : (n == ("__debug__" : Str)) = false := by decide)
    (hd2 : (n == ("__classdict__" : Str)) = false := by decide) (hb : attributeBase (.Name n p) f X.env (eval (.Name n p) X.env) = eval (.Name n p) X.env := by rfl) : JE (X.suite a ((a, oe) :: pn)) c E (.Attribute (.Name n p) f pos) (sFldX i cs f) := by
  have pv : PE (X.suite a ((a, oe) :: pn)) (.Name n p) (tVar i) := pe_var hN hv hd1 hd2
  refine ⟨fun pins s σ H Q I h => ?_⟩
  obtain ⟨B, s0, I0, q⟩ := of_tr h
  unfold sFldX at q
  cases e : s0.env[i]? with
  | none => simp only [e] at q; exact q.elim
  | some sl =>
    cases sl with
    | xcp x =>
      simp only [e] at q
      obtain ⟨a', cl', dd', q0, q1, ok⟩ := I0.slot i _ e
      rw [hx] at q0
      cases q0
      split at q
      · rename_i hm
        obtain ⟨T, hno⟩ := hT _ hm
        refine attr_of hb (thn (pv.run pins s σ H (fun v H1 => v = .ref a ∧ H1 = H) I ⟨_, q1, rfl, rfl⟩) fun u s1 ⟨v, H1, I1, rx, ev, eH⟩ => ?_)
        subst ev eH
        obtain rfl : u = Value.ref a := rx
        cases l : x.fs.lookup f with
        | none => simp only [l] at q; exact q.elim
        | some dv =>
          simp only [l] at q
          rcases ok.2 with ⟨_, e2⟩ | ⟨dx, fs, e1, e2, e3⟩
          · rw [e2] at l; cases l
          · obtain ⟨vv, l2, dqv⟩ := e3.look l
            obtain ⟨ha, _⟩ := I1.pin (a, oe) (List.mem_append_left _ List.mem_cons_self)
            have hxo : ObjOk X.prog X.w H1 s1.heap dx (.xd fs) := I1.hok dx _ (I0.ex _ _ e2)
            obtain ⟨mA, hns, hr⟩ := hxo
            obtain ⟨od, ho, hl⟩ := lookIn_ns hns
            obtain ⟨u, hu, ru⟩ := RelO.some_of (v := vv) (o := mA f) (by rw [← l2]; exact hr f)
            obtain ⟨vs, hdat⟩ := hf
            have J : PySem.W.InstAt s1.heap a oe x.cls (some od) := ⟨ha, hz.1.trans ok.1, by unfold PySem.W.notCls; rw [hdat] <;> rfl, by rw [hz.2, e1]; exact ho⟩
            exact HandSPX.exc_get I1.kIn J T.ga T.gg T.exC (PySem.W.findObj_own T.hd hno rfl (by rw [hl, hu])) (handed_of ru) ⟨vv, H1, I1.tok _, ru, q vv B H1 (.refl I0) dqv trivial⟩
      · exact q.elim
    | no => simp only [e] at q; exact q.elim
    | val d => simp only [e] at q; exact q.elim
    | own ds => simp only [e] at q; exact q.elim
    | cup => simp only [e] at q; exact q.elim
end
end Eng

/-! C(a=.., ..) of an own exception -/
namespace PySem
namespace EX
open PySem.W PySem.Calls PyProof.Rows PySem.HandSPX
section
variable {M : Model} {A : Around} {E : Value → Shared → Prop} {h : Heap} {g : Array GenState} {d : Drawn} {t : Nat} {os : OsState}
variable {nm q : Str} {C N : Addr} {bs bm bmB : List Value} {hdct : Bool} {sn : List Str} {sub : List Value} {ab : Bool} {col : Option Bool} {dd : Option Addr} {k0 k1 k2 k3 k5 : Option Value} {B newId initId : String}
theorem check_new_k (F : ExcBaseFacts B newId initId bmB) (hT : ∀ X : String, bm.contains (.type X) = bmB.contains (.type X)) {kw : List (Str × Value)} {Q : Unit → Shared → Prop}
    (hC : h.get? C = some (excClassObj nm q C N bs bm hdct sn sub ab col dd k0 k1 k2 k3 k5 newId)) (hq : Q () ⟨h, g, d, t, os⟩) : wpAny M A (checkBuiltinCall newId ⟨[.ref C], kw⟩) Q E ⟨h, g, d, t, os⟩ := by
  have hcont : (Value.ref C :: bm).contains (.type B) = true := by rw [List.contains_cons, hT, F.hasB, Bool.or_true]
  have hstar := F.noStar
  simp only [checkBuiltinCall, F.newKind, F.newSplit, F.newRow]
  repeat (first | refine wpAny_loadPart_at hC ?_ | (refine wpAny_isSubtype_exc hC ?_; rw [hcont]) | refine wpAny_staticBase_exc hC ?_ | refine wpAny_madeBy_exc hC ?_ | simp only [bne_self_eq_false, Bool.false_eq_true, if_false] | wp_step)
  exact hq
end
section
variable {prog : Program} {w : World} {A : Around} {E : Value → Shared → Prop} {R : Result → Shared → Prop} {h : Heap} {g : Array GenState} {d : Drawn} {t : Nat} {os : OsState}
variable {nm q : Str} {C N : Addr} {bs bm bmB : List Value} {hdct : Bool} {sn : List Str} {sub : List Value} {ab : Bool} {col : Option Bool} {dd : Option Addr} {k0 k1 k2 k3 k5 : Option Value} {B newId initId : String}
theorem new_k (F : ExcBaseFacts B newId initId bmB) (hT : ∀ X : String, bm.contains (.type X) = bmB.contains (.type X)) {kw : List (Str × Value)}
    (hC : h.get? C = some (excClassObj nm q C N bs bm hdct sn sub ab col dd k0 k1 k2 k3 k5 newId))
    (hq : R (.ok (.ret (.ref (h.objs.size + 1)))) ⟨(h.push { cls := .type "tuple", data := .seq ([] : List Value).toArray }).push
      { cls := .ref C, data := .fields #[.ref h.objs.size, .none, .none, .none, .bool false, .none] }, g, d, t, os⟩) :
    codeAny (model prog w) A (.builtin newId ⟨[.ref C], kw⟩) R ⟨h, g, d, t, os⟩ := by
  have hends := F.ends
  have hcB : (Value.ref C :: bm).contains (.type B) = true := by rw [List.contains_cons, hT, F.hasB, Bool.or_true]
  have hcA : (Value.ref C :: bm).contains (.type "AttributeError") = false := by rw [List.contains_cons, hT, F.noAttr]; rfl
  have hcN : (Value.ref C :: bm).contains (.type "NameError") = false := by rw [List.contains_cons, hT, F.noName]; rfl
  have hrest : ([] : List Value).length ≤ sizeLine := Nat.zero_le _
  refine codeAny_builtinAt F.entry ?_
  unfold Builtin.«BaseException.__new__»
  refine wpAt_bind ?_
  show wpAt _ _ _ (stack >>= _) _ _ _
  refine wpAt_bind (wpAt_stack fun p below => wpAt_of_wpAny ?_)
  wp_walk
  refine wpAt_of_wpAny ?_
  rw [F.owner]
  repeat (first | with_reducible refine wpAny_madeHere_exc F.canon hC ?_ | with_reducible refine wpAny_loadPart_at hC ?_ | (with_reducible refine wpAny_isSubtype_exc hC ?_; first | rw [hcB] | rw [hcA] | rw [hcN]) | wp_step)
  show R _ _
  rw [Heap.size_push]
  exact hq
theorem type_call_k (F : ExcBaseFacts B newId initId bmB) (hT : ∀ X : String, bm.contains (.type X) = bmB.contains (.type X)) {kw : List (Str × Value)} {fI : Addr} {Q : Fin → Shared → Prop}
    (hC : h.get? C = some (excClassObj nm q C N bs bm hdct sn sub ab col dd k0 k1 k2 k3 k5 newId))
    (hi : W.Looks (model prog w) h (typeLookup (.ref C) "__init__") (some (.ref fI))) (hb : ∀ self, W.Looks (model prog w) h (bindSpecial (.ref fI) self) (.ref fI, [self]))
    (hq : codeAny (model prog w) A (.call (.ref fI) ⟨[.ref (h.objs.size + 1)], kw⟩)
      (fun r s' => match r with | .ok (.ret v) => v = .none ∧ Q (.done (.ret (.ref (h.objs.size + 1)))) s' | .ok _ => False | .error e => E e s')
      ⟨(h.push (W.kdv_tup [])).push (excO C h.objs.size), g, d, t, os⟩) :
    wpAny (model prog w) A (Builtin.«type.__call__» ⟨[.ref C], kw⟩) Q E ⟨h, g, d, t, os⟩ := by
  repeat (first | with_reducible refine wpAny_loadPart_at hC ?_ | with_reducible refine wpAny_madeBy_exc hC ?_ | wp_step)
  refine codeAny_call_builtin_code (Code.quiet_builtin _ F.quiet) (check_new_k F hT hC ?_)
  refine new_k F hT hC ?_
  show wpAny _ _ _ _ _ _
  have k : ∀ b o, h.get? b = some o → ((h.push (W.kdv_tup [])).push (excO C h.objs.size)).get? b = some o := fun b o e => Heap.get?_push_of_some _ (Heap.get?_push_of_some _ e)
  have hC₁ := k _ _ hC
  have hget : ((h.push (W.kdv_tup [])).push (excO C h.objs.size)).get? (h.objs.size + 1) = some (excO C h.objs.size) := by heap_get
  have hcC : (Value.ref C :: bm).contains (.ref C) = true := by simp
  have i1 := hi.keeps k
  have b1 := (hb (.ref (h.objs.size + 1))).keeps k
  unfold isInstance
  repeat (first | with_reducible refine wpAny_loadPart_at hget ?_ | (with_reducible refine wpAny_isSubtype_exc hC₁ ?_; rw [hcC]) | wp_step)
  show wpAny _ _ (typeLookup (.ref C) _) _ _ _
  refine i1.at ?_
  refine wpAny_holding (wpAny_bind (b1.at ?_))
  refine wpAny_bind (wpAny_call (codeAny_mono hq fun r s' z => ?_))
  rcases r with e | (v | _ | _ | _) <;> first | exact z | exact z.elim | skip
  obtain ⟨rfl, z⟩ := z
  first
    | exact wpAny_pure (wpAny_pure z)
    | (wp_walk; exact z)
theorem call_k (F : ExcBaseFacts B newId initId bmB) (hT : ∀ X : String, bm.contains (.type X) = bmB.contains (.type X)) {kw : List (Str × Value)} {fI : Addr}
    (hC : h.get? C = some (excClassObj nm q C N bs bm hdct sn sub ab col dd k0 k1 k2 k3 k5 newId))
    (hi : W.Looks (model prog w) h (typeLookup (.ref C) "__init__") (some (.ref fI))) (hb : ∀ self, W.Looks (model prog w) h (bindSpecial (.ref fI) self) (.ref fI, [self]))
    (hq : codeAny (model prog w) (A.under (.builtin "type.__call__" ⟨[.ref C], kw⟩)) (.call (.ref fI) ⟨[.ref (h.objs.size + 1)], kw⟩) (W.InitBack (h.objs.size + 1) R)
      ⟨(h.push (W.kdv_tup [])).push (excO C h.objs.size), g, d, t, os⟩) :
    codeAny (model prog w) A (.call (.ref C) ⟨[], kw⟩) R ⟨h, g, d, t, os⟩ := by
  have f1 := tc_lookup
  have f2 := tc_bind (.ref C)
  have hTy : (⟨h, g, d, t, os⟩ : Shared).TypeIs (.ref C) "type" := ⟨_, hC, rfl⟩
  refine codeAny_of_tree ?_
  show wpAny _ _ (callAny (.ref C) _) _ _ _
  repeat (any_goals (first | assumption | with_reducible refine wpAny_loadPart_at hC ?_ | wp_step))
  refine ⟨rfl, ?_⟩
  refine codeAny_call_builtin_at (Code.quiet_builtin _ (by decide +kernel)) entry_typeCall (wpAny_check_type_call_sub hC (type_call_k F hT hC hi hb ?_))
  refine codeAny_mono hq fun r s' z => ?_
  rcases r with e | (v | _ | _ | _) <;> exact z
theorem make_runK {K : Frag} {mg : Str → Option Value} {x : Str} {ns : List Str} {base : Heap} (T : ExT prog K mg x C B newId initId bmB ns) (M : L2.Mod K mg base) {us : List Value} {kw : List (Str × Value)} {s : Shared} (hl : us.length = ns.length) (hk : kw = ns.zip us ∨ kw = (ns.zip us).reverse) (hz : ns.length ≤ 1000) (bb : ∀ b o, base.get? b = some o → s.heap.get? b = some o) (hroom : A.depth + 1 < recursionLimit)
    (hq : ∀ h' tk e, Made s.heap h' e C ((ns.zip us).reverse) → R (.ok (.ret (.ref e))) { s with heap := h', toks := tk }) :
    codeAny (model prog w) A (.call (.ref C) ⟨[], kw⟩) R s := by
  obtain ⟨nm, q, N, bs, bm, sn, sub, ab, col, dd, k0, k1, k2, k3, k5, hC, hbm⟩ := T.cls
  obtain ⟨hp, g, dr, tk, os⟩ := s
  have k : ∀ b o, hp.get? b = some o → ((hp.push (kdv_tup [])).push (excO C hp.objs.size)).get? b = some o := fun b o e => Heap.get?_push_of_some _ (Heap.get?_push_of_some _ e)
  have hget : ((hp.push (kdv_tup [])).push (excO C hp.objs.size)).get? (hp.objs.size + 1) = some (excO C hp.objs.size) := by heap_get
  have X : K.In hp := M.kin.keeps bb
  obtain ⟨fI, iC, tI, run⟩ := init_run (A := A.under (.builtin "type.__call__" ⟨[.ref C], kw⟩)) (w := w) (R := InitBack (hp.objs.size + 1) R) T M (e := hp.objs.size + 1) (t0 := hp.objs.size) (us := us) (s := ⟨(hp.push (kdv_tup [])).push (excO C hp.objs.size), g, dr, tk, os⟩) (n0 := hp.objs.size) hl hz
    (fun b o z => ⟨Heap.lt_size (bb b o z), k b o (bb b o z)⟩) (Nat.le_succ _) hget (by show A.depth + 1 < recursionLimit; exact hroom)
  refine call_k T.bf.eb (fun Y => excTail_contains Y bm hbm) (X _ _ hC) (looks_findIn X iC) (fun self => bind_fn X self tI) (run ⟨[.ref (hp.objs.size + 1)], kw⟩ (by rcases hk with rfl | rfl; exact .inr (.inl rfl); exact .inr (.inr rfl)) fun h' tk' L k' hE => ⟨rfl, hq h' tk' (hp.objs.size + 1) ⟨fun b o z => k' b o (Heap.lt_size z) (k b o z), Nat.le_succ _, L, hE⟩⟩)
end
end EX
end PySem
namespace Eng
open PySem PySem.Spec PyProof.Rows L2 Evl
variable [Tb]
theorem zip_rev {α β : Type} : ∀ {a : List α} {b : List β}, b.length = a.length → (a.zip b).reverse = a.reverse.zip b.reverse
  | [], [], _ => rfl
  | x :: a, y :: b, h => by
    rw [List.zip_cons_cons, List.reverse_cons, List.reverse_cons, List.reverse_cons, zip_rev (by simpa using h), List.zip_append (by simpa using h.symm)]
    rfl
  | [], _ :: _, h => nomatch h
  | _ :: _, [], h => nomatch h
/-! ### keywords' values -/
abbrev JK (X : Cx) (c : Cc) (E : XS) (kws : List Keyword) (sa : SA) : Prop := PK X kws (trA X.K c E sa)
/-- C(b=.., a=..): the values as they stand in the text; turned: the other way round -/
def sExcK (C : Addr) (ns : List Str) (turned : Bool) (sa : SA) : SE := fun s => (sa s).bind fun ds s1 => if ds.length = ns.length then .ok (.dat (.exc C (xfs ns (if turned then ds.reverse else ds)))) s1 else .bad
section
variable {X : Cx} {c : Cc} {E : XS} {pos p kpos : Pos} {x : Str} {C : Addr} {B newId initId : String} {bmB : List Value} {ns : List Str}
theorem jk_nil : JK X c E [] sNil := ⟨fun pos pins s σ H Q I ⟨B, s0, I0, q⟩ => pk_nil.run pos pins s σ H Q I (q [] B H (.refl I0) .nil)⟩
theorem jk_cons {nm : Option Str} {e : Expr} {kws : List Keyword} {sa : SE} {sr : SA} (ha : JE X c E e sa) (hr : JK X c E kws sr) : JK X c E (⟨nm, e, kpos⟩ :: kws) (sCons sa sr) := ⟨fun pos pins s σ H Q I q => (pk_cons ha hr).run pos pins s σ H Q I (cons_run q)⟩
/-- the end, whatever the call's form -/
theorem exc_endK {pins : List (Addr × Obj)} {σ : L2.St} {H1 B0 H0 B1 : Hp} {s0 s1 : S} {sh : Shared} {us : List Value} {vs : List V} {ds : List D} {kw : List (Str × Value)} {Q : VK} (T : PySem.EX.ExT X.prog X.K X.mg x C B newId initId bmB ns) (hr : Room 1 X.A) (hz : ns.length ≤ 1000)
    (I : Inv X pins σ H1 sh) (A1 : Aft X.K c B0 H0 σ s0 B1 H1 s1) (r : Vals vs us) (dq : DqAll X.K B1 vs ds) (hl : ds.length = ns.length) (hk : kw = ns.zip us ∨ kw = (ns.zip us).reverse)
    (q : ∀ v B' H', Aft X.K c B0 H0 σ s0 B' H' s1 → Dq X.K B' v (.exc C (xfs ns ds)) → Q v H') : wpAny (model X.prog X.w) X.A (call (.ref C) [] kw) (EP X pins σ Q) X.xe sh := by
  have hlu : us.length = ns.length := by rw [← r.length, dq.length, hl]
  have dqf : DqFs X.K B1 (ns.zip vs).reverse (xfs ns ds) := (dq_zip ns dq).rev
  have kv : KV (ns.zip vs).reverse (ns.zip us).reverse := kv_rev (kv_zip ns r)
  obtain ⟨hp, g, dr, tk, os⟩ := sh
  refine wpAny_call (PySem.EX.make_runK T I.mod hlu hk hz I.bk (by have := hr.dp; omega) fun h' tk' e M => ?_)
  show EP X pins σ Q (.ref e) ⟨h', g, dr, tk', os⟩
  have hn : H1 e = none := I.hok.fresh M.new
  obtain ⟨L, t1, hE⟩ := M.at_
  obtain ⟨G, g1, g2⟩ := restrict h' fun b => decide (b ≠ e)
  have gk : ∀ b, b ≠ e → G.get? b = h'.get? b := fun b hb => g1 b (decide_eq_true hb)
  have ge : G.get? e = none := g2 e (by simp)
  have old : ∀ b o, hp.get? b = some o → G.get? b = some o := fun b o q => (gk b (Nat.ne_of_lt (Nat.lt_of_lt_of_le (Heap.lt_size q) M.new))).trans (M.keep b o q)
  have up : ∀ b o, G.get? b = some o → h'.get? b = some o := fun b o z => by
    by_cases hb : b = e
    · rw [hb, ge] at z; cases z
    · exact (gk b hb).symm.trans z
  rcases hE with ⟨em, he⟩ | ⟨dx, d0, d1, d2, he, hd⟩
  · have J : Inv X pins σ (upd H1 e (exo e C none)) ⟨h', g, dr, tk', os⟩ := I.laid (t' := tk') M.keep M.new (exo_ok he)
    have A2 := A1.trans (Aft.newB (o := exo e C none) A1.si hn nT_exo)
    refine ⟨.ref e, _, J, rfl, q _ _ _ A2 ?_⟩
    have : xfs ns ds = [] := by
      have z : (ns.zip us).length = 0 := by rw [← List.length_reverse, em]; rfl
      have z2 : (ns.zip ds).length = 0 := by rw [List.length_zip] at z ⊢; omega
      unfold xfs
      rw [List.length_eq_zero_iff.mp z2]
      rfl
    rw [this]
    exact .exc0 upd_same
  · have hnd : H1 dx = none := I.hok.fresh d0
    have J1 : Inv X pins σ (upd H1 dx (exd dx (ns.zip vs).reverse)) ⟨G, g, dr, tk', os⟩ := I.laid (t' := tk') old d0 (exd_ok (hd.at fun o z => (gk dx d1).trans z) (kv_look kv))
    have hn2 : (upd H1 dx (exd dx (ns.zip vs).reverse)) e = none := by rw [upd_ne (Ne.symm d1)]; exact hn
    have J : Inv X pins σ (upd (upd H1 dx (exd dx (ns.zip vs).reverse)) e (exo e C (some dx))) ⟨h', g, dr, tk', os⟩ := J1.laidN (t' := tk') up ge hn2 (exo_ok he)
    have A2 := A1.trans (Aft.newB (o := exd dx (ns.zip vs).reverse) A1.si hnd nT_exd)
    have A3 := A2.trans (Aft.newB (o := exo e C (some dx)) A2.si hn2 nT_exo)
    refine ⟨.ref e, _, J, rfl, q _ _ _ A3 (.exc upd_same ?_ (dqf.mono ?_))⟩
    · rw [upd_ne d1]; exact upd_same
    · have nb1 : B1 dx = none := A1.si.bnone hnd
      have nb2 : (upd B1 dx (exd dx (ns.zip vs).reverse)) e = none := A2.si.bnone hn2
      exact fun a o z => by
        rw [upd_ne (ne_of_none (by rw [upd_ne (ne_of_none z nb1)]; exact z) nb2), upd_ne (ne_of_none z nb1)]
        exact z
theorem dqAll_rev' {K : PySem.W.Frag} {H : Hp} {ds : List D} {vs : List V} (h : DqAll K H vs ds) : DqAll K H vs.reverse ds.reverse := h.reverse
theorem je_excK (turned : Bool) {kws : List Keyword} {sa : SA} (T : PySem.EX.ExT X.prog X.K X.mg x C B newId initId bmB ns) (hr : Room 1 X.A) (ha : JK X c E kws sa) (hks : (backToKw pos (keywordEach kws X.env)).filterMap (·.1) = (if turned then ns.reverse else ns) := by rfl) (hz : ns.length ≤ 1000 := by decide) (hg : Gl X x := by rfl) (hd : (x == ("__debug__" : Str)) = false := by decide)
    (hall : (backToKw pos (keywordEach kws X.env)).all (·.1.isSome) = true := by rfl) (hpl : ((backTo pos (starEach [] X.env)).any (·.1) || (backToKw pos (keywordEach kws X.env)).any (·.1.isNone)) = false := by rfl) : JE X c E (.Call (.Name x p) [] kws pos) (sExcK C ns turned sa) := by
  refine ⟨fun pins s σ H Q I h => ?_⟩
  obtain ⟨B0, s0, I0, q⟩ := of_tr h
  refine wpAny_Call_Name_kw (ld_glob I hg T.gC ?_ hd)
  refine PySem.W.callWith_KW0 (h₀ := X.base) I.ok.mod.kin T.kC hall (thn (ha.run pos pins s σ H _ I (bindAP (.refl I0) q)) fun us s1 ⟨vs, H1, I1, r1, B1, s2, ds, A1, _, dq, q1⟩ => ⟨I1.kIn, ?_⟩) hpl
  rw [hks]
  show wpAny _ _ (call (.ref C) [] ((if turned then ns.reverse else ns).zip us)) _ _ _
  split at q1
  · rename_i z
    have hlu : us.length = ns.length := by rw [← r1.length, dq.length, z]
    cases turned with
    | false => exact exc_endK T hr hz I1 A1 r1 dq z (.inl rfl) fun v B' H' A d => q1 v B' H' A d trivial
    | true =>
      refine exc_endK (us := us.reverse) (vs := vs.reverse) (ds := ds.reverse) T hr hz I1 A1 (Vals.reverse r1) dq.reverse (by rw [List.length_reverse]; exact z) (.inr ?_) fun v B' H' A d => q1 v B' H' A d trivial
      rw [zip_rev (by rw [List.length_reverse]; exact hlu), List.reverse_reverse]
      rfl
  · exact q1.elim
end
end Eng

/-! the end: a law's def as a reading; the tables of code objects that lambdas write to -/
namespace Eng
open PySem PySem.Spec PyProof.Rows L2 Evl
variable [Tb]

/-- what is tracked at the start: the empty tables, the script -/
structure Trk (K : PySem.W.Frag) (ts : List (Addr × Addr)) (a : Addr) (H : Hp) : Prop where
  only : ∀ b u, H b = some u → (u = .tbl #[] ∧ ∃ p ∈ ts, b = p.2) ∨ (b = a ∧ K.lookup a = none ∧ ∃ o xs, u = .frz o (.lst xs))
  tabs : ∀ p ∈ ts, H p.2 = some (.tbl #[])
/-- the law's call, for defs above which no repr is under way -/
theorem law_callG {P : Program} {w : World} {K : PySem.W.Frag} {mg mb : Str → Option Value} {k : Nat} {fa a : Addr} {fd : FuncData} {x : Str} {sp : Sp} {s₁ : Shared} {vs : List Value} {ns : List Int} {ts : List (Addr × Addr)}
    (KX : K.In s₁.heap) (hns : s₁.heap.Ns mainGlobals mg) (hb : s₁.heap.Ns builtinsNs mb) (hbb : ∀ x : Str, x ≠ "__name__" → mb x = bootBuiltins x) (hlim : s₁.heap.NoLimit) (hg : s₁.gens = #[])
    (tT : ∀ p ∈ ts, s₁.heap.get? p.2 = some (PySem.W.tabObj #[])) (tK : ∀ p ∈ ts, K.lookup p.2 = none) (tC : ∀ p ∈ ts, PySem.W.CodeHd s₁.heap p.1 p.2)
    (tM : ∃ (bm : Addr) (ob : Obj), mg "__builtins__" = some (.ref bm) ∧ bm ≠ builtinsNs ∧ s₁.heap.get? bm = some ob ∧ ob.cls = .type "module" ∧ ob.dict = some builtinsNs ∧ ob.data = .plain)
    (ha : s₁.heap.get? a = some { cls := .type "list", data := .seq vs.toArray }) (hi : IntsAre vs ns) (hl : ns.length ≤ sizeLine) (hr : Room k callerA)
    (F : ∀ base : Heap, K.In base → base.Ns mainGlobals mg → (∀ p ∈ ts, LamX.TabB base mg p.1 p.2) → FnG P w K mg base CX0 k fa fd [x] sp) (hbind : ∀ (s : Shared) (u : Value), BindsTo s fd ⟨[u], []⟩ [(x, u)])
    (hsp : ∀ H : Hp, Trk K ts a H → SqL K H a (ns.map V.int) → sp [.ref a] H (fun v _ => v = .bl true) fun _ _ _ => False) :
    codeAny (model P w) callerA (.call (.ref fa) ⟨[.ref a], []⟩) (fun r s' => r = .ok (.ret (.bool true)) ∧ OldK s₁.heap s'.heap ∧ s'.os = s₁.os ∧ AllBare s'.gens) s₁ := by
  have rv := vals_ints hi
  have nat : ∀ p ∈ ts, p.2 ≠ a := fun p hp z => by
    have q := tT p hp
    rw [z, ha] at q
    cases q
  have core : ∀ H : Hp, Trk K ts a H → SqL K H a (ns.map V.int) → HOk P w H s₁.heap →
      codeAny (model P w) callerA (.call (.ref fa) ⟨[.ref a], []⟩) (fun r s' => r = .ok (.ret (.bool true)) ∧ OldK s₁.heap s'.heap ∧ s'.os = s₁.os ∧ AllBare s'.gens) s₁ := by
    intro H hO hS hok
    have seen : ∀ {b : Addr} {o : Obj}, s₁.heap.get? b = some o → o.cls ≠ .none → o.cls ≠ .type "list" → H b = none := fun {b o} e n1 n2 => by
      cases q : H b with
      | none => rfl
      | some u =>
        rcases hO.only b u q with ⟨_, p, hp, rfl⟩ | ⟨rfl, _⟩
        · rw [tT p hp] at e
          cases e
          exact (n1 rfl).elim
        · rw [ha] at e
          cases e
          exact (n2 rfl).elim
    have seenD : ∀ {b : Addr} {o : Obj} {es : Array DictEntry} {ep : Nat}, s₁.heap.get? b = some o → o.data = .dict es ep → H b = none := fun {b o es ep} e d => by
      cases q : H b with
      | none => rfl
      | some u =>
        rcases hO.only b u q with ⟨_, p, hp, rfl⟩ | ⟨rfl, _⟩
        · rw [tT p hp] at e
          cases e
          cases d
        · rw [ha] at e
          cases e
          have d' : Data.seq vs.toArray _ = Data.dict es ep := d
          cases d'
    have inB : ∀ {b : Addr} {o : Obj}, s₁.heap.get? b = some o → H b = none → (hidT s₁.heap H).get? b = some o := fun e n => hidT_get e n
    have nsB : ∀ {b : Addr} {m : Str → Option Value}, s₁.heap.Ns b m → (hidT s₁.heap H).Ns b m := fun {b m} ⟨o, es, ep, e, d, r⟩ => ⟨o, es, ep, inB e (seenD e d), d, r⟩
    have hKb : K.In (hidT s₁.heap H) := fun b o e => inB (KX b o e) (by
      cases q : H b with
      | none => rfl
      | some u =>
        rcases hO.only b u q with ⟨_, p, hp, rfl⟩ | ⟨rfl, n, _⟩
        · rw [tK p hp] at e
          cases e
        · rw [n] at e
          cases e)
    have hM : Mod K mg (hidT s₁.heap H) := ⟨hKb, nsB hns, ⟨mb, nsB hb, hbb⟩, hlim.elim fun mc z => ⟨mc, nsB z.1, z.2⟩⟩
    have TB : ∀ p ∈ ts, LamX.TabB (hidT s₁.heap H) mg p.1 p.2 := fun p hp => by
      obtain ⟨o, us, f1, f2, f3, f4, f5, f6, f7, e1, e2, rest⟩ := tC p hp
      obtain ⟨g0, es, ep, e3, hd, _⟩ := id hns
      obtain ⟨bm, ob, b1, b2, b3, b4, b5, b6⟩ := tM
      have ng : mainGlobals ≠ p.2 := fun z => by
        rw [z, tT p hp] at e3
        cases e3
        cases hd
      refine ⟨⟨o, us, f1, f2, f3, f4, f5, f6, f7, inB e1 (seen e1 (by rw [e2]; nofun) (by rw [e2]; decide)), e2, rest⟩, ⟨bm, ob, b1, b2, fun z => ?_, fun z => ?_, inB b3 (seen b3 (by rw [b4]; nofun) (by rw [b4]; decide)), b4, b5, b6⟩, ng⟩
      · rw [z, e3] at b3
        cases b3
        rw [hd] at b6
        cases b6
      · rw [z, tT p hp] at b3
        cases b3
        cases b4
    have e0 : Env0 P w K mg (hidT s₁.heap H) callerA [] s₁ H := ⟨rfl, hM, fun b o e => of_hidT e, Nat.le_of_eq (hidT_size _ _), trivial, fun b hb => absurd (show b ∈ ([] : List Addr) from hb) (by simp), hok, .of_eq hg⟩
    refine codeAny_mono ((F _ hKb (nsB hns) TB).run callerA [] s₁ H ⟨[.ref a], []⟩ [.ref a] [.ref a] _ _ hr rfl e0 (hbind s₁ (.ref a)) (.cons rfl .nil) (hsp H hO hS)) fun r s' h => ?_
    cases r with
    | error e => exact False.elim h
    | ok fl =>
      cases fl with
      | next => exact False.elim h
      | brk => exact False.elim h
      | cont => exact False.elim h
      | ret u =>
        obtain ⟨v, H', os, bare, un, hok', r', q⟩ := h
        have q' : v = .bl true := q
        subst q'
        obtain rfl : u = Value.bool true := r'
        have stays : ∀ b o, s₁.heap.get? b = some o → s'.heap.get? b = some o ∨ ∃ p ∈ ts, b = p.2 := fun b o e => by
          cases q : H b with
          | none => exact .inl (un.keep b o e q (by intro z; exact absurd (show b ∈ ([] : List Addr) from z) (by simp)) (by simp))
          | some u =>
            rcases hO.only b u q with ⟨_, z⟩ | ⟨rfl, _, ob, xs, rfl⟩
            · exact .inr z
            · have z2 := un.frzs b ob _ q
              obtain ⟨e1, _⟩ := hok b _ q
              obtain ⟨e2, _⟩ := hok' b _ z2
              rw [e] at e1; cases e1
              exact .inl e2
        have grow : ∀ p ∈ ts, ∃ us : Array Value, s'.heap.get? p.2 = some (PySem.W.tabObj us) := fun p hp => by
          obtain ⟨us, z⟩ := un.tbls p.2 #[] (hO.tabs p hp)
          exact ⟨_, hok' p.2 _ z⟩
        refine ⟨rfl, ⟨fun b o e => ?_, fun b o e => ?_⟩, os, bare⟩
        · rcases stays b o e with z | ⟨p, hp, rfl⟩
          · exact .inl z
          · obtain ⟨us, z⟩ := grow p hp
            rw [tT p hp] at e
            cases e
            exact .inr (.inl ⟨((tC p hp).tab (tT p hp)).isCodeTable, rfl, #[], us, rfl, by rw [Array.empty_append]; exact z⟩)
        · rcases stays b o e with z | ⟨p, hp, rfl⟩
          · exact ⟨o, z⟩
          · obtain ⟨us, z⟩ := grow p hp
            exact ⟨_, z⟩
  have tm : ∀ {b : Addr}, b ∈ ts.map (·.2) → ∃ p ∈ ts, b = p.2 := fun {b} hb => by
    obtain ⟨p, hp, e⟩ := List.mem_map.mp hb
    exact ⟨p, hp, e.symm⟩
  have mt : ∀ p ∈ ts, p.2 ∈ ts.map (·.2) := fun p hp => List.mem_map.mpr ⟨p, hp, rfl⟩
  cases hk : K.lookup a with
  | some o =>
    have e := KX a o hk
    rw [ha] at e
    cases e
    refine core (fun b => if b ∈ ts.map (·.2) then some (.tbl #[]) else none) ⟨fun b u q => ?_, fun p hp => if_pos (mt p hp)⟩ (.inr ⟨_, vs.toArray, _, hk, rfl, rfl, rfl, by rw [List.size_toArray, hi.length]; exact hl, by simpa using rv⟩) (fun b u q => ?_)
    · by_cases z : b ∈ ts.map (·.2)
      · rw [if_pos z] at q
        cases q
        exact .inl ⟨rfl, tm z⟩
      · rw [if_neg z] at q
        cases q
    · by_cases z : b ∈ ts.map (·.2)
      · have q' := (if_pos z).symm.trans q
        cases q'
        obtain ⟨p, hp, rfl⟩ := tm z
        exact tT p hp
      · have q' := (if_neg z).symm.trans q
        cases q'
  | none =>
    refine core (fun b => if b ∈ ts.map (·.2) then some (.tbl #[]) else if b = a then some (.frz { cls := .type "list", data := .seq vs.toArray } (.lst (ns.map V.int))) else none) ⟨fun b u q => ?_, fun p hp => if_pos (mt p hp)⟩
      (.inl (.inr ⟨{ cls := .type "list", data := .seq vs.toArray }, (if_neg fun z => (tm z).elim fun p hp => nat p hp.1 hp.2.symm).trans (if_pos rfl)⟩)) (fun b u q => ?_)
    · by_cases z : b ∈ ts.map (·.2)
      · rw [if_pos z] at q
        cases q
        exact .inl ⟨rfl, tm z⟩
      · rw [if_neg z] at q
        by_cases z2 : b = a
        · rw [if_pos z2] at q
          cases q
          exact .inr ⟨z2, hk, _, _, rfl⟩
        · rw [if_neg z2] at q
          cases q
    · by_cases z : b ∈ ts.map (·.2)
      · have q' := (if_pos z).symm.trans q
        cases q'
        obtain ⟨p, hp, rfl⟩ := tm z
        exact tT p hp
      · have q1 := (if_neg z).symm.trans q
        by_cases z2 : b = a
        · have q' := (if_pos z2).symm.trans q1
          cases q'
          subst z2
          exact ⟨ha, by rw [List.length_map]; exact hl, vs, _, rv, ha⟩
        · have q' := (if_neg z2).symm.trans q1
          cases q'
/-- the data at the start: what is tracked, but the tables -/
def noTb (H : Hp) : Hp := fun b => match H b with
  | some (.tbl _) => none
  | o => o
theorem noTb_some {H : Hp} {b : Addr} {o : HO} (h : noTb H b = some o) : H b = some o ∧ nT o := by
  unfold noTb at h
  split at h
  · cases h
  · rename_i z
    exact ⟨h, fun ps e => z ps (by rw [← e]; exact h)⟩
theorem noTb_of {H : Hp} {b : Addr} {o : HO} (h : H b = some o) (n : nT o) : noTb H b = some o := by
  unfold noTb
  split
  · rename_i ps e
    rw [h] at e
    cases e
    exact (n ps rfl).elim
  · exact h
theorem noTb_sq {K : PySem.W.Frag} {H : Hp} {a : Addr} {xs : List V} (h : SqL K H a xs) : SqL K (noTb H) a xs := by
  rcases h with (h | ⟨o, h⟩) | h
  · exact .inl (.inl (noTb_of h nT_lst))
  · exact .inl (.inr ⟨o, noTb_of h fun _ z => nomatch z⟩)
  · exact .inr h
/-- the goal that the head leaves, from a reading that is true for every script; ts: the defs that make lambdas, their code objects and tables -/
theorem walkT {l : PySem.W.OpenLaw} {k : Nat} {q : Program} {loose : List Str} {XP : (Str → Option Value) → Heap → Prop} {YP : World → Heap → Prop} {d : DefRec} {K : Params → PySem.W.Frag} {x : Str} {f : FD} (ts : List (Str × Addr × Addr))
    (hn : l.most = some 63) (hdf : d.params.defaults = []) (hr : Room k callerA) (hY : ∀ (w : World) (h : Heap), YP w h → (K w.params).In h)
    (hR : ∀ t ∈ ts, ((recsOf q).find? (fun e => e.name == t.1)).isSome = true) (hI : ∀ w : World, ∀ t ∈ ts, PySem.W.tabIn (K w.params) t.1 = some t.2 ∧ (K w.params).lookup t.2.2 = none) (hT : ∀ p ∈ Tb.T, ∃ t ∈ ts, t.2.2 = p.1)
    (F : ∀ (w : World) (mg : Str → Option Value) (fa : Addr) (h : Heap), (K w.params).In h → h.Ns mainGlobals mg → mg d.name = some (.ref fa) →
      ∃ fd : FuncData, (∀ (s : Shared) (u : Value), BindsTo s fd ⟨[u], []⟩ [(x, u)]) ∧
        ∀ base : Heap, (K w.params).In base → base.Ns mainGlobals mg → (∀ t ∈ ts, LamX.TabB base mg t.2.1 t.2.2) → FnG l.prog w (K w.params) mg base CX0 k fa fd [x] (spP (K w.params) f))
    (pure : ∀ ns : List Int, ns.length ≤ 63 → (∀ z ∈ ns, Builtin.Int.intBits z ≤ 1048576) → ∃ cp, f (0, 0, 0) [.scr ns] = .ok (.bl true) cp) :
    PySem.W.WalkO q loose XP YP l.row.toRowW d [] (fun f vs => PySem.call f vs) := by
  refine Att.attach_callB hn hdf fun w s₀ s₁ mg mb fa o pm cd doc a vs ns G Y ho hd hcd hmg hobj hints hlen hbits hg => ?_
  have KX := hY w _ Y
  obtain ⟨fd, hb, hF⟩ := F w mg fa _ KX G.T.g hmg
  have tab : ∀ t ∈ ts, PySem.W.CodeHd s₁.heap t.2.1 t.2.2 ∧ s₁.heap.get? t.2.2 = some (PySem.W.tabObj #[]) := fun t ht => by
    obtain ⟨dr, hdr⟩ := Option.isSome_iff_exists.mp (hR t ht)
    exact PySem.W.tab_of G.T KX hdr (hI w t ht).1
  have mem : ∀ {R : Addr × Addr → Prop}, (∀ t ∈ ts, R t.2) → ∀ p ∈ ts.map (·.2), R p := fun {R} h p hp => by
    obtain ⟨t, ht, rfl⟩ := List.mem_map.mp hp
    exact h t ht
  refine law_callG (ts := ts.map (·.2)) KX G.T.g G.T.b G.T.builtins G.T.nolimit hg (mem (R := fun p => s₁.heap.get? p.2 = some (PySem.W.tabObj #[])) fun t ht => (tab t ht).2) (mem (R := fun p => (K w.params).lookup p.2 = none) fun t ht => (hI w t ht).2) (mem (R := fun p => PySem.W.CodeHd s₁.heap p.1 p.2) fun t ht => (tab t ht).1) G.T.bmain hobj hints
    (Nat.le_trans hlen (by rw [sizeLine_eq]; decide)) hr (fun base b1 b2 b3 => hF base b1 b2 fun t ht => b3 t.2 (List.mem_map.mpr ⟨t, ht, rfl⟩)) hb fun H hH hS => ?_
  obtain ⟨cp, e⟩ := pure ns hlen hbits
  refine ⟨noTb H, [.scr ns], fun b u z => (noTb_some z).1, .cons (.scr (noTb_sq hS)) .nil, ⟨fun b u z => (noTb_some z).2, fun p hp => ?_⟩, ?_⟩
  · obtain ⟨t, ht, e⟩ := hT p hp
    rw [← e]
    exact LamX.TabS.nil (hH.tabs t.2 (List.mem_map.mpr ⟨t, ht, rfl⟩))
  · rw [e]
    intro v B' H' A q
    cases q
    rfl
/-- .. without lambdas -/
theorem walkE {l : PySem.W.OpenLaw} {k : Nat} {q : Program} {loose : List Str} {XP : (Str → Option Value) → Heap → Prop} {YP : World → Heap → Prop} {d : DefRec} {K : Params → PySem.W.Frag} {x : Str} {f : FD} (h0 : Tb.T = [])
    (hn : l.most = some 63) (hdf : d.params.defaults = []) (hr : Room k callerA) (hY : ∀ (w : World) (h : Heap), YP w h → (K w.params).In h)
    (F : ∀ (w : World) (mg : Str → Option Value) (fa : Addr) (h : Heap), (K w.params).In h → h.Ns mainGlobals mg → mg d.name = some (.ref fa) →
      ∃ fd : FuncData, (∀ (s : Shared) (u : Value), BindsTo s fd ⟨[u], []⟩ [(x, u)]) ∧
        ∀ base : Heap, (K w.params).In base → base.Ns mainGlobals mg → FnG l.prog w (K w.params) mg base CX0 k fa fd [x] (spP (K w.params) f))
    (pure : ∀ ns : List Int, ns.length ≤ 63 → (∀ z ∈ ns, Builtin.Int.intBits z ≤ 1048576) → ∃ cp, f (0, 0, 0) [.scr ns] = .ok (.bl true) cp) :
    PySem.W.WalkO q loose XP YP l.row.toRowW d [] (fun f vs => PySem.call f vs) :=
  walkT [] hn hdf hr hY (fun _ h => nomatch h) (fun _ _ h => nomatch h) (fun p h => by rw [h0] at h; cases h) (fun w mg fa h a b c => (F w mg fa h a b c).imp fun fd z => ⟨z.1, fun base b1 b2 _ => z.2 base b1 b2⟩) pure
end Eng

/-! the helpers that stand in every law, as readings -/
namespace Eng
open PySem PySem.Spec PyProof.Rows L2 Evl
variable [Tb]
def ss_l_cup : SS := sSeq (sAsg 2 (sIf (sB (sOp2 ltD (sVar 1) (sOp1 lenD (sVar 0)))) (sOp1 intD (sOp2 ixD (sVar 0) (sVar 1))) (sOp2 addD (sOp2 mulD (sC (.int 7933)) (sVar 1)) (sC (.int 271))))) (sSeq (sAsg 3 (sOp2 addD (sC (.int 104033)) (sOp2 mulD (sC (.int 797)) (sVar 1)))) (sSeq (sFor (siSeq (sOp2 addD (sSl (sVar 0) (sNoP) (sPart (sC (.int 6)))) (sLst (sCons (sVar 2) (sNil))))) (sgName 4) (sAsg 3 (sOp2 modD (sOp1 intD (sOp2 addD (sOp2 mulD (sVar 3) (sC (.int 48281))) (sOp1 intD (sVar 4)))) (sC (.int 2147483137))))) (sNext)))
def se_l_cup : SE := sLst (sCons (sIf (sOr (sB (sOp2 ltD (sVar 2) (sC (.int 0)))) (sB (sOp2 geD (sVar 2) (sOp2 powD (sC (.int 10)) (sC (.int 18)))))) (sOp1 absD (sVar 2)) (sC (.int 0))) (sCons (sVar 3) (sCons (sC (.int 0)) (sNil))))
def f_l_cup : FN := defN 5 2 ss_l_cup se_l_cup
def ss_l_sip : SS := sSeq (sCupSet 0 2 (sOp2 addD (sCupAt 0 2) (sC (.int 1)))) (sSeq (sAsg 2 (sOp1 intD (sCupAt 0 1))) (sSeq (sCupSet 0 1 (sOp2 modD (sOp1 intD (sOp2 addD (sOp2 addD (sOp2 mulD (sVar 2) (sOp2 addD (sOp2 modD (sOp1 intD (sVar 2)) (sC (.int 25013))) (sC (.int 18013)))) (sOp2 mulD (sC (.int 61027)) (sCupAt 0 2))) (sC (.int 83)))) (sC (.int 2147483137)))) (sSeq (sIfS (sB (sOp2 gtD (sCupAt 0 0) (sC (.int 0)))) (sSeq (sCupTwo 0 3 0 (sOp2 divmodD (sCupAt 0 0) (sVar 1))) (sRet (sVar 3))) (sNext)) (sRet (sOp2 modD (sOp1 intD (sOp2 fdivD (sCupAt 0 1) (sC (.int 149)))) (sVar 1))))))
def f_l_sip : FD := defC 4 1 ss_l_sip
def ss_l_of : SS := sRet (sOp2 ixD (sVar 1) (sCallC 0 f_l_sip (sCons (sOp1 lenD (sVar 1)) (sNil))))
def f_l_of : FD := defC 2 1 ss_l_of
theorem defC_def {n ar : Nat} {ss : SS} {cup : Cup} {ds : List D} (h : ds.length = ar ∧ ar + 1 ≤ n) : defC n ar ss cup ds = match ss ⟨.cup :: (ds.map .val ++ List.replicate (n - 1 - ar) .no), cup⟩ with
  | .ok (.ret d) s => .ok d s.cup
  | .ok .next s => .ok .non s.cup
  | _ => .bad := if_pos h
theorem mulD_great {i j : Int} (h : i.natAbs.log2 + j.natAbs.log2 < 100000000) : mulD (.int i) (.int j) = some (.dat (.int (i * j))) := by
  unfold mulD
  simp [CMulB, h]
theorem mulD_int {i j : Int} (h : i.natAbs.log2 + j.natAbs.log2 < 1000000) : mulD (.int i) (.int j) = some (.dat (.int (i * j))) := by
  unfold mulD
  have h' : i.natAbs.log2 + j.natAbs.log2 < 100000000 := by omega
  simp [CMulB, h']
theorem log2_small {n : Nat} (h : n < 2 ^ 400000) : n.log2 ≤ 400000 := by
  by_cases z : n = 0
  · subst z; simp
  · exact Nat.le_of_lt ((Nat.log2_lt z).mpr h)
/-- a cup that is in order -/
def Good (c : Cup) : Prop := 0 ≤ c.1 ∧ 0 ≤ c.2.1 ∧ c.2.1 < 2147483137 ∧ 0 ≤ c.2.2 ∧ c.2.2 < 2 ^ 60
theorem log_le {i : Int} (h0 : 0 ≤ i) (h : i < 2 ^ 100) : i.natAbs.log2 < 100 := by
  by_cases z : i.natAbs = 0
  · rw [z]; decide
  · refine (Nat.log2_lt z).mpr ?_
    omega
theorem sip_pure {a b n top : Int} (ha : 0 ≤ a) (hb : 0 ≤ b) (hb2 : b < 2147483137) (hn : 0 ≤ n) (hn2 : n < 2 ^ 90) (ht : 0 < top) (ht2 : top < 2 ^ 30) :
    ∃ a' b' r, f_l_sip (a, b, n) [.int top] = .ok (.int r) (a', b', n + 1) ∧ 0 ≤ a' ∧ 0 ≤ b' ∧ b' < 2147483137 ∧ 0 ≤ r ∧ r < top := by
  have hm0 : 0 ≤ b % 25013 := Int.emod_nonneg _ (by decide)
  have hm1 : b % 25013 < 25013 := Int.emod_lt_of_pos _ (by decide)
  have m1 : mulD (.int b) (.int (b % 25013 + 18013)) = some (.dat (.int (b * (b % 25013 + 18013)))) := mulD_int (by
    have := log_le hb (by omega)
    have := log_le (i := b % 25013 + 18013) (by omega) (by omega)
    omega)
  have m2 : mulD (.int 61027) (.int (n + 1)) = some (.dat (.int (61027 * (n + 1)))) := mulD_int (by
    have := log_le (i := 61027) (by omega) (by omega)
    have := log_le (i := n + 1) (by omega) (by omega)
    omega)
  generalize hq : (b * (b % 25013 + 18013) + 61027 * (n + 1) + 83) % 2147483137 = q
  have q0 : 0 ≤ q := by rw [← hq]; exact Int.emod_nonneg _ (by decide)
  have q1 : q < 2147483137 := by rw [← hq]; exact Int.emod_lt_of_pos _ (by decide)
  unfold f_l_sip
  rw [defC_def (n := 4) (ar := 1) (ds := [D.int top]) ⟨rfl, by decide⟩]
  have ht3 : top < 1073741824 := by omega
  have l149 : Nat.log2 149 < 9000 := by decide
  unfold ss_l_sip
  by_cases hp : 0 < a
  · refine ⟨a / top, q, a % top, ?_, Int.ediv_nonneg ha (by omega), q0, q1, Int.emod_nonneg _ (by omega), Int.emod_lt_of_pos _ ht⟩
    simp [sSeq, sCupSet, sCupAt, cupAt, cupPut, sOp2, sOp1, sC, peek, Res.bind, addD, iop, intD, sAsg, stow, setSl, sVar, m1, m2, modD, iopC, hq, sIfS, sB, gtD, hp, sCupTwo, divmodD, ht, ht3, sRet, frz, sNext, catL, catT, catS]
  · refine ⟨a, q, (q / 149) % top, ?_, ha, q0, q1, Int.emod_nonneg _ (by omega), Int.emod_lt_of_pos _ ht⟩
    simp [sSeq, sCupSet, sCupAt, cupAt, cupPut, sOp2, sOp1, sC, peek, Res.bind, addD, iop, intD, sAsg, stow, setSl, sVar, m1, m2, modD, iopC, hq, sIfS, sB, gtD, hp, sCupTwo, divmodD, ht, ht3, sRet, frz, sNext, catL, catT, catS, fdivD, l149]
theorem defN_def {n ar : Nat} {ss : SS} {se : SE} {ds : List D} (h : ds.length = ar ∧ ar ≤ n) : defN n ar ss se ds = match ss ⟨ds.map .val ++ List.replicate (n - ar) .no, (0, 0, 0)⟩ with
  | .ok .next s1 => (match se s1 with
    | .ok (.fr es) _ => some es
    | _ => none)
  | _ => none := if_pos h
/-- what a script's number costs -/
theorem mul_small {i j : Int} (h : Builtin.Int.intBits i ≤ 1048576) (hj : j.natAbs.log2 < 100) : True := trivial
theorem cup_loop (cell k : Int) (cells : List Int) : ∀ (ds : List Int) (st : Int) (e4 : Sl), 0 ≤ st → st < 2147483137 * 2 ^ 40 →
    ∃ st' e4', 0 ≤ st' ∧ (st' < 2147483137 ∨ ds = []) ∧ (ds = [] → st' = st) ∧ forL (sgName 4) (sAsg 3 (sOp2 modD (sOp1 intD (sOp2 addD (sOp2 mulD (sVar 3) (sC (.int 48281))) (sOp1 intD (sVar 4)))) (sC (.int 2147483137)))) (ds.map .int) ⟨[.val (.scr cells), .val (.int k), .val (.int cell), .val (.int st), e4], (0, 0, 0)⟩
      = .ok .next ⟨[.val (.scr cells), .val (.int k), .val (.int cell), .val (.int st'), e4'], (0, 0, 0)⟩
  | [], st, e4, h0, _ => ⟨st, e4, h0, .inr rfl, fun _ => rfl, rfl⟩
  | d :: ds, st, e4, h0, h1 => by
    have m1 : mulD (.int st) (.int 48281) = some (.dat (.int (st * 48281))) := mulD_int (by
      have := log_le h0 (by omega)
      have := log_le (i := 48281) (by omega) (by omega)
      omega)
    generalize hq : (st * 48281 + d) % 2147483137 = q
    have q0 : 0 ≤ q := by rw [← hq]; exact Int.emod_nonneg _ (by decide)
    have q1 : q < 2147483137 := by rw [← hq]; exact Int.emod_lt_of_pos _ (by decide)
    obtain ⟨st', e4', a1, a2, a3, a4⟩ := cup_loop cell k cells ds q (.val (.int d)) q0 (by omega)
    refine ⟨st', e4', a1, .inl ?_, (fun z => nomatch z), ?_⟩
    · rcases a2 with z | z
      · exact z
      · rw [a3 z]; exact q1
    · rw [List.map_cons]
      simp only [forL, sgName]
      rw [← a4]
      simp [sAsg, sOp2, sOp1, sVar, sC, peek, Res.bind, addD, iop, intD, stow, setSl, m1, modD, iopC, hq, catL, catT, catS]
theorem cup_pure {cells : List Int} {k : Int} (hk : 0 ≤ k) (hk2 : k < 1000) (hl : cells.length ≤ 63) : ∃ a b, f_l_cup [.scr cells, .int k] = some [.int a, .int b, .int 0] ∧ Good (a, b, 0) := by
  have m1 : mulD (.int 7933) (.int k) = some (.dat (.int (7933 * k))) := mulD_int (by
    have := log_le (i := 7933) (by omega) (by omega)
    have := log_le hk (by omega)
    omega)
  have m2 : mulD (.int 797) (.int k) = some (.dat (.int (797 * k))) := mulD_int (by
    have := log_le (i := 797) (by omega) (by omega)
    have := log_le hk (by omega)
    omega)
  obtain ⟨cell, hc⟩ : ∃ cell, sIf (sB (sOp2 ltD (sVar 1) (sOp1 lenD (sVar 0)))) (sOp1 intD (sOp2 ixD (sVar 0) (sVar 1))) (sOp2 addD (sOp2 mulD (sC (.int 7933)) (sVar 1)) (sC (.int 271))) ⟨[.val (.scr cells), .val (.int k), .no, .no, .no], (0, 0, 0)⟩ = .ok (.dat (.int cell)) ⟨[.val (.scr cells), .val (.int k), .no, .no, .no], (0, 0, 0)⟩ := by
    by_cases h : k < cells.length
    · have e1 : cells[k.toNat]? = some (cells[k.toNat]'(by omega)) := List.getElem?_eq_getElem _
      have e2 : L2.atI cells k = some (cells[k.toNat]'(by omega)) := by
        unfold L2.atI ixN
        rw [if_pos hk, if_pos (by omega)]
        exact e1
      refine ⟨cells[k.toNat]'(by omega), ?_⟩
      simp [sIf, sB, sOp2, sOp1, sVar, peek, Res.bind, ltD, iop, lenD, h, ixD, e2, intD]
    · refine ⟨7933 * k + 271, ?_⟩
      simp [sIf, sB, sOp2, sOp1, sVar, sC, peek, Res.bind, ltD, iop, lenD, h, m1, addD, catL, catT, catS]
  obtain ⟨st', e4', a1, a2, a3, a4⟩ := cup_loop cell k cells ((cutL cells none (some 6)) ++ [cell]) (104033 + 797 * k) .no (by omega) (by omega)
  have b1 : st' < 2147483137 := a2.elim id fun z => by simp at z
  have en : ([D.scr cells, D.int k].map Sl.val ++ List.replicate (5 - 2) Sl.no) = [.val (.scr cells), .val (.int k), .no, .no, .no] := rfl
  have a4' := a4
  rw [List.map_append] at a4'
  have hlen : (cutL cells none (some 6)).length ≤ 63 := by
    unfold cutL
    rw [List.length_take, List.length_drop]
    omega
  have hfor : sFor (siSeq (sOp2 addD (sSl (sVar 0) sNoP (sPart (sC (.int 6)))) (sLst (sCons (sVar 2) sNil)))) (sgName 4) (sAsg 3 (sOp2 modD (sOp1 intD (sOp2 addD (sOp2 mulD (sVar 3) (sC (.int 48281))) (sOp1 intD (sVar 4)))) (sC (.int 2147483137)))) ⟨[.val (.scr cells), .val (.int k), .val (.int cell), .val (.int (104033 + 797 * k)), .no], (0, 0, 0)⟩
      = .ok .next ⟨[.val (.scr cells), .val (.int k), .val (.int cell), .val (.int st'), e4'], (0, 0, 0)⟩ := by
    rw [← a4']
    have hz : (cutL cells none (some 6)).length ≤ 999999 := by omega
    simp [sFor, siSeq, sOp2, sSl, sVar, sNoP, sPart, sC, sLst, sCons, sNil, frz, peek, Res.bind, slD, addD, iop, catL, dataOf, line, hz]
  unfold f_l_cup
  rw [defN_def (n := 5) (ar := 2) (ds := [.scr cells, .int k]) ⟨rfl, by decide⟩, en]
  have hss : ss_l_cup ⟨[.val (.scr cells), .val (.int k), .no, .no, .no], (0, 0, 0)⟩ = .ok .next ⟨[.val (.scr cells), .val (.int k), .val (.int cell), .val (.int st'), e4'], (0, 0, 0)⟩ := by
    unfold ss_l_cup
    simp only [sSeq, sAsg, hc, Res.bind, stow]
    simp only [setSl, List.set_cons_succ, List.set_cons_zero]
    simp only [sOp2, sC, sVar, peek, Res.bind, m2, List.getElem?_cons_succ, List.getElem?_cons_zero, addD, iop]
    simp only [setSl, List.set_cons_succ, List.set_cons_zero]
    rw [show (sFor (siSeq (sOp2 addD (sSl (sVar 0) sNoP (sPart (sC (.int 6)))) (sLst (sCons (sVar 2) sNil)))) (sgName 4) (sAsg 3 (sOp2 modD (sOp1 intD (sOp2 addD (sOp2 mulD (sVar 3) (sC (.int 48281))) (sOp1 intD (sVar 4)))) (sC (.int 2147483137))))) ⟨[.val (.scr cells), .val (.int k), .val (.int cell), .val (.int (104033 + 797 * k)), .no], (0, 0, 0)⟩ = _ from hfor]
    rfl
  rw [hss]
  by_cases hcell : cell < 0 ∨ 1000000000000000000 ≤ cell
  · refine ⟨if cell < 0 then -cell else cell, st', ?_, ?_, a1, b1, Int.le_refl 0, (by show (0 : Int) < 2 ^ 60; decide)⟩
    · rcases hcell with z | z
      · simp [se_l_cup, sLst, sCons, sNil, sIf, sOr, sB, sOp2, sOp1, sVar, sC, peek, Res.bind, ltD, geD, iop, z, absD, frz, powD, iopC, line]
      · have nz : ¬ cell < 0 := by omega
        simp [se_l_cup, sLst, sCons, sNil, sIf, sOr, sB, sOp2, sOp1, sVar, sC, peek, Res.bind, ltD, geD, iop, z, nz, absD, frz, powD, iopC, line]
    · show 0 ≤ (if cell < 0 then -cell else cell)
      split <;> omega
  · refine ⟨0, st', ?_, Int.le_refl 0, a1, b1, Int.le_refl 0, (by show (0 : Int) < 2 ^ 60; decide)⟩
    have n1 : ¬ cell < 0 := fun z => hcell (.inl z)
    have n2 : ¬ (1000000000000000000 ≤ cell) := fun z => hcell (.inr z)
    simp [se_l_cup, sLst, sCons, sNil, sIf, sOr, sB, sOp2, sOp1, sVar, sC, peek, Res.bind, ltD, geD, iop, n1, n2, absD, frz, powD, iopC, line]
end Eng

/-! the last def of every law -/
namespace Eng
open PySem PySem.Spec PyProof.Rows L2 Evl
variable [Tb]

def ss_law (fr : FD) : SS := sRet (sOp1 allD (sLc (siRange1 (sCons (sOp2 max2D (sC (.int 2)) (sOp2 min2D (sOp1 lenD (sVar 0)) (sC (.int 4)))) sNil)) (sgName 1) sYes (sCupCall f_l_cup fr (sCons (sVar 0) (sCons (sVar 1) sNil))) [1]))
def f_law (fr : FD) : FD := defP 2 1 (ss_law fr)
theorem law_loop {fr : FD} (h : ∀ c, Good c → ∃ c', fr c [] = .ok (.bl true) c') {cells : List Int} (hl : cells.length ≤ 63) : ∀ (ks : List Int) (acc : List D), (∀ k ∈ ks, 0 ≤ k ∧ k < 1000) → acc.length + ks.length ≤ 1000 →
    lcL (sgName 1) sYes (sCupCall f_l_cup fr (sCons (sVar 0) (sCons (sVar 1) sNil))) [1] (ks.map .int) acc ⟨[.val (.scr cells), .no], (0, 0, 0)⟩ = .ok (.fr (acc ++ ks.map fun _ => .bl true)) ⟨[.val (.scr cells), .no], (0, 0, 0)⟩
  | [], acc, _, _ => by simp [lcL]
  | k :: ks, acc, hk, ha => by
    obtain ⟨k0, k1⟩ := hk k List.mem_cons_self
    obtain ⟨a, b, e, g⟩ := cup_pure (cells := cells) k0 k1 hl
    obtain ⟨c', e2⟩ := h _ g
    rw [List.length_cons] at ha
    have ih := law_loop h hl ks (acc ++ [.bl true]) (fun k hk' => hk k (List.mem_cons_of_mem _ hk')) (by rw [List.length_append, List.length_singleton]; omega)
    rw [List.map_cons]
    have hacc : acc.length < line := by unfold line; omega
    have hse : sCupCall f_l_cup fr (sCons (sVar 0) (sCons (sVar 1) sNil)) ⟨[.val (.scr cells), .val (.int k)], (0, 0, 0)⟩ = .ok (.dat (.bl true)) ⟨[.val (.scr cells), .val (.int k)], (0, 0, 0)⟩ := by
      simp [sCupCall, sCons, sNil, sVar, Res.bind, frz, e, e2]
    simp only [lcL, freeV, List.all_cons, List.all_nil, List.getElem?_cons_succ, List.getElem?_cons_zero, Bool.and_true, if_true, wipeS, wipeE, List.set_cons_succ, List.set_cons_zero, sgName, setSl, sYes, Res.noX, Res.bind, hse, frz]
    rw [if_pos hacc]
    simp only [unwipeS, unwipeE, List.getElem?_cons_succ, List.getElem?_cons_zero, List.set_cons_succ, List.set_cons_zero]
    rw [ih]
    simp
theorem blsOf_true : ∀ n : List Int, blsOf (n.map fun _ => D.bl true) = some (n.map fun _ => true)
  | [] => rfl
  | k :: n => by
    rw [List.map_cons]
    simp [blsOf, blsOf_true n]
theorem law_pure {fr : FD} (h : ∀ c, Good c → ∃ c', fr c [] = .ok (.bl true) c') {cells : List Int} (hl : cells.length ≤ 63) : ∃ cp, f_law fr (0, 0, 0) [.scr cells] = .ok (.bl true) cp := by
  refine ⟨(0, 0, 0), ?_⟩
  unfold f_law defP
  rw [if_pos ⟨rfl, by decide⟩]
  have en : ([D.scr cells].map Sl.val ++ List.replicate (2 - 1) Sl.no) = [.val (.scr cells), .no] := rfl
  rw [en]
  obtain ⟨m, hm, hm2⟩ : ∃ m : Nat, m ≤ 4 ∧ siRange1 (sCons (sOp2 max2D (sC (.int 2)) (sOp2 min2D (sOp1 lenD (sVar 0)) (sC (.int 4)))) sNil) ⟨[.val (.scr cells), .no], (0, 0, 0)⟩ = .ok (rgD 0 m) ⟨[.val (.scr cells), .no], (0, 0, 0)⟩ := by
    generalize hz : (if (4 : Int) < cells.length then (4 : Int) else cells.length) = z
    generalize hy : (if z > (2 : Int) then z else (2 : Int)) = y
    have z4 : z ≤ 4 ∧ 0 ≤ z := by rw [← hz]; split <;> omega
    have y4 : y ≤ 4 ∧ 0 ≤ y := by rw [← hy]; split <;> omega
    refine ⟨y.toNat, by omega, ?_⟩
    have c1 : -(2 ^ 62) ≤ y ∧ y < 2 ^ 62 := by omega
    simp only [siRange1, sCons, sOp2, sOp1, sC, sVar, sNil, Res.bind, peek, lenD, min2D, max2D, iop, List.getElem?_cons_zero, frz, hz, hy]
    rw [if_pos c1]
  have hks : ∀ k ∈ (List.range m).map (fun (i : Nat) => (0 : Int) + i), 0 ≤ k ∧ k < 1000 := by
    intro k hk
    obtain ⟨i, hi, rfl⟩ := List.mem_map.mp hk
    have := List.mem_range.mp hi
    omega
  have lp := law_loop h hl ((List.range m).map (fun (i : Nat) => (0 : Int) + i)) [] hks (by simp; omega)
  have er : rgD 0 m = ((List.range m).map (fun (i : Nat) => (0 : Int) + i)).map D.int := by unfold rgD; rw [List.map_map]; rfl
  unfold ss_law
  simp only [sRet, sOp1, sLc, hm2, Res.bind, er, lp, peek, List.nil_append, allD, blsOf_true, Option.map_some, frz]
  simp
end Eng

/-! what the top has written -/
namespace Eng
open PySem PySem.Spec PyProof.Rows L2 Evl
variable [Tb]
/-- a def, by what its name stands for -/
theorem raw_mk {K : PySem.W.Frag} {mg : Str → Option Value} {h : Heap} (X : K.In h) (G : h.Ns mainGlobals mg) {x : Str} {st : Stmt} {ps : List Str} {f : Addr} {oc : Value} {od an : Option Addr} {sl : Array (Option Value)} {kV doc pm cd ct : Value}
    (hb : ∀ (kV doc pm : Value) (an : Option Addr) (cdv ct : Value) (us : List Value), us.length = ps.length → bindArgs (PySem.W.fnOf x x (defArgs st) (defBody st) (defScope st) .none kV doc pm an cdv ct) ⟨us, []⟩ = pure (ps.zip us))
    (hk : ∀ (kV doc pm : Value) (an : Option Addr) (cdv ct : Value) (t : Bool) (ws : List Value), ws.length = ps.length → bindArgs (PySem.W.fnOf x x (defArgs st) (defBody st) (defScope st) .none kV doc pm an cdv ct) ⟨[], (kwN t ps).zip ws⟩ = pure (ps.zip (kwG t ws)))
    (a : PySem.W.nsIn K mainGlobals x = some (some (.ref f))) (l : K.lookup f = some ⟨oc, od, .func (PySem.W.fnOf x x (defArgs st) (defBody st) (defScope st) .none kV doc pm an cd ct), sl⟩) (c : PySem.W.codeIn K cd x = true) (k : PySem.W.keepIn K (.ref f) = true) : Raw K mg x st ps :=
  ⟨f, _, fun_mk l c k, PySem.W.mg_of X G a, k, (fun_mk l c k).binds hb, fun t s ws _ hl => .of_eq (hk _ _ _ _ _ _ t ws hl)⟩
end Eng

namespace Eng
open PySem PySem.Spec PyProof.Rows L2 Evl
variable [Tb]

/-! ### list(range(..)), tuple(range(..)) -/
def RgB (a b : Int) : Prop := -(2 ^ 62) ≤ a ∧ a < 2 ^ 62 ∧ -(2 ^ 62) ≤ b ∧ b < 2 ^ 62 ∧ (b - a).toNat ≤ line
instance (a b : Int) : Decidable (RgB a b) := by unfold RgB; infer_instance
theorem RgB.ok {a b : Int} (h : RgB a b) : RgOk a b := ⟨h.1, h.2.1, h.2.2.1, h.2.2.2.1, Nat.le_trans h.2.2.2.2 (by decide)⟩
def sLRg1 (sa : SE) : SE := fun s => (sa s).bind fun w s1 => match w with
  | .dat (.int n) => if RgB 0 n then .ok (.fr (rgD 0 n.toNat)) s1 else .bad
  | _ => .bad
def sTRg1 (sa : SE) : SE := fun s => (sa s).bind fun w s1 => match w with
  | .dat (.int n) => if RgB 0 n then .ok (.dat (.tup (rgD 0 n.toNat))) s1 else .bad
  | _ => .bad
def sLRg2 (sa sb : SE) : SE := fun s => (sa s).bind fun w s1 => match w with
  | .dat (.int a) => (sb s1).bind fun u s2 => (match u with
    | .dat (.int b) => if RgB a b then .ok (.fr (rgD a (b - a).toNat)) s2 else .bad
    | _ => .bad)
  | _ => .bad
theorem rgV_dq {K : PySem.W.Frag} {B : Hp} (a b : Int) : DqAll K B (rgV a b) (rgD a (b - a).toNat) := by
  have e1 : rgV a b = ((List.range (b - a).toNat).map fun (i : Nat) => a + i).map V.int := by unfold rgV; rw [List.map_map]; rfl
  have e2 : rgD a (b - a).toNat = ((List.range (b - a).toNat).map fun (i : Nat) => a + i).map D.int := by unfold rgD; rw [List.map_map]; rfl
  rw [e1, e2]
  exact dq_ints _
section
variable {X : Cx} {c : Cc} {E : XS} {pos p p2 pos2 : Pos} {a b : Expr} {sa sb : SE}
theorem je_listRg1 (hm : X.mg "list" = none) (hm2 : X.mg "range" = none) (ha : JE X c E a sa) (hc : X.calm = true := by rfl) (hg : Gl X "list" := by rfl) (hg2 : Gl X "range" := by rfl) (n1 : starEach [a] X.env = (false, eval a X.env) :: starEach [] X.env := by rfl)
    (n2 : starEach [.Call (.Name "range" p2) [a] [] pos2] X.env = (false, eval (.Call (.Name "range" p2) [a] [] pos2) X.env) :: starEach [] X.env := by rfl) : JE X c E (.Call (.Name "list" p) [.Call (.Name "range" p2) [a] [] pos2] [] pos) (sLRg1 sa) :=
  pe_imp (pe_listRg hc hg hm (prg_1 hg2 hm2 ha n1) n2) fun σ H Q q => by
    obtain ⟨B, s, I, q⟩ := of_tr q
    refine trE_mono (bindEP (.refl I) q) fun x H1 ⟨B1, s1, w, A1, A1', V1, N1, q1⟩ => ?_
    split at q1
    · rename_i n
      split at q1
      · rename_i z
        cases V1
        refine ⟨n, rfl, z.ok, fun l nl => ?_⟩
        have dq := rgV_dq (K := X.K) (B := B1) 0 n
        rw [show (n - 0).toNat = n.toNat by rw [Int.sub_zero]] at dq
        obtain ⟨a, b, n'⟩ := (Made.list nl dq).aft A1
        exact q1 _ _ _ a b n'
      · exact q1.elim
    · exact q1.elim
theorem je_tupRg1 (hm : X.mg "tuple" = none) (hm2 : X.mg "range" = none) (ha : JE X c E a sa) (hc : X.calm = true := by rfl) (hg : Gl X "tuple" := by rfl) (hg2 : Gl X "range" := by rfl) (n1 : starEach [a] X.env = (false, eval a X.env) :: starEach [] X.env := by rfl)
    (n2 : starEach [.Call (.Name "range" p2) [a] [] pos2] X.env = (false, eval (.Call (.Name "range" p2) [a] [] pos2) X.env) :: starEach [] X.env := by rfl) : JE X c E (.Call (.Name "tuple" p) [.Call (.Name "range" p2) [a] [] pos2] [] pos) (sTRg1 sa) :=
  pe_imp (pe_tupRg hc hg hm (prg_1 hg2 hm2 ha n1) n2) fun σ H Q q => by
    obtain ⟨B, s, I, q⟩ := of_tr q
    refine trE_mono (bindEP (.refl I) q) fun x H1 ⟨B1, s1, w, A1, A1', V1, N1, q1⟩ => ?_
    split at q1
    · rename_i n
      split at q1
      · rename_i z
        cases V1
        refine ⟨n, rfl, z.ok, fun l nl => ?_⟩
        have dq := rgV_dq (K := X.K) (B := upd B1 l (.tup (rgV 0 n))) 0 n
        rw [show (n - 0).toNat = n.toNat by rw [Int.sub_zero]] at dq
        obtain ⟨a, b, n'⟩ := (Made.data (K := X.K) (B := B1) (o := .tup (rgV 0 n)) (d := .tup (rgD 0 n.toNat)) nl (.tup (SqT.of upd_same) dq)).aft A1
        exact q1 _ _ _ a b n'
      · exact q1.elim
    · exact q1.elim
theorem je_listRg2 (hm : X.mg "list" = none) (hm2 : X.mg "range" = none) (ha : JE X c E a sa) (hb : JE X c E b sb) (hc : X.calm = true := by rfl) (hg : Gl X "list" := by rfl) (hg2 : Gl X "range" := by rfl) (n1 : starEach [a, b] X.env = (false, eval a X.env) :: starEach [b] X.env := by rfl) (n3 : starEach [b] X.env = (false, eval b X.env) :: starEach [] X.env := by rfl) (hp : (backTo pos2 (starEach [b] X.env)).any (·.1) = false := by rfl)
    (n2 : starEach [.Call (.Name "range" p2) [a, b] [] pos2] X.env = (false, eval (.Call (.Name "range" p2) [a, b] [] pos2) X.env) :: starEach [] X.env := by rfl) : JE X c E (.Call (.Name "list" p) [.Call (.Name "range" p2) [a, b] [] pos2] [] pos) (sLRg2 sa sb) :=
  pe_imp (pe_listRg hc hg hm (prg_2 hg2 hm2 ha hb n1 n3 hp) n2) fun σ H Q q => by
    obtain ⟨B, s, I, q⟩ := of_tr q
    refine trE_mono (bindEP (.refl I) q) fun x H1 ⟨B1, s1, w, A1, A1', V1, N1, q1⟩ => ?_
    split at q1
    · rename_i n
      cases V1
      refine trE_mono (bindEP A1 q1) fun y H2 ⟨B2, s2, u, A2, A2', V2, N2, q2⟩ => ?_
      split at q2
      · rename_i m
        split at q2
        · rename_i z
          cases V2
          refine ⟨n, m, rfl, rfl, z.ok, fun l nl => ?_⟩
          obtain ⟨a, b, n'⟩ := (Made.list nl (rgV_dq (K := X.K) (B := B2) n m)).aft A2
          exact q2 _ _ _ a b n'
        · exact q2.elim
      · exact q2.elim
    · exact q1.elim
end
/-! ### factorial -/
def factD : D → Option Vw
  | .int n => if 0 ≤ n ∧ n ≤ 100 then some (.dat (.int (Builtin.Math.factorialNat n.toNat : Nat))) else none
  | _ => none
theorem cr_fact {X : Cx} : CallR X (.builtin "math.factorial") (fun vs H Q => ∃ n : Int, vs = [.int n] ∧ 0 ≤ n ∧ n ≤ 100 ∧ Q (.int (Builtin.Math.factorialNat n.toNat : Nat)) H) := by
  intro pins s σ H vs us Q I r ⟨n, e, h0, h1, q⟩
  subst e
  obtain ⟨u, rfl, t, rfl⟩ := vals1 r
  refine PySem.W.mg_factorial (a := n) (t := t) ?_ (by omega) ?_ ?_ ⟨.int _, H, I.tok _, ⟨_, rfl⟩, q⟩
  · have : (Builtin.Math.maxSsize : Int) ≥ 1000 := by decide
    omega
  · have : (Builtin.Math.manyFactors : Int) ≥ 100 := by decide
    omega
  · have hm : ∀ m : Nat, m ≤ 100 → (((Builtin.Math.factorialNat m : Nat) : Int)).natAbs.log2 < PySem.bitsLine := by decide +kernel
    exact hm n.toNat (by omega)
theorem ro_fact {K : PySem.W.Frag} : RO1 K (fun v H Q => ∃ n : Int, [v] = [V.int n] ∧ 0 ≤ n ∧ n ≤ 100 ∧ Q (.int (Builtin.Math.factorialNat n.toNat : Nat)) H) factD := by
  intro B H x d w e p q Q k
  cases d <;> simp only [factD, reduceCtorEq] at q
  split at q
  · rename_i z
    cases q
    rw [p.int_inv]
    exact ⟨_, rfl, z.1, z.2, k _ B H (.old (.int _))⟩
  · cases q
/-! ### sorted(xs, reverse=True) -/
def sortedRD : D → Option Vw
  | .lst ds => (intsOf ds).map fun ns => .fr ((sortI ns).reverse.map .int)
  | _ => none
theorem ro_sortedR {K : PySem.W.Frag} : RO1 K (fun v H Q => rSortedKw K true [.bl true] [v] [.bl true] H Q) sortedRD := by
  intro B H x d w e p q Q k
  cases d <;> simp only [sortedRD, reduceCtorEq, Option.map_eq_some_iff] at q
  obtain ⟨ns, h, rfl⟩ := q
  obtain ⟨a, vs, rfl, h1, h2⟩ := p.lst_inv
  rw [intsOf_eq h] at h2
  have z := ints_dq h2
  subst z
  refine ⟨a, ns, rfl, rfl, SqL.of h1, fun ns' p' hp hs n => ?_⟩
  have hs' : ns'.Pairwise (· ≥ ·) := hs
  have ez : ns'.reverse = sortI ns := sorted_uniq ((List.reverse_perm ns').trans (hp.trans (sortI_perm ns).symm)) (List.pairwise_reverse.mpr hs') (sortI_sorted ns)
  have e2 : ns' = (sortI ns).reverse := by rw [← ez, List.reverse_reverse]
  subst e2
  exact k _ B _ (.list n (dq_ints _))
theorem je_sortedR {X : Cx} {c : Cc} {E : XS} {pos p kpos p2 : Pos} {j : Nat} {a : Expr} {sa : SE} (hm : X.mg "sorted" = none) (ha : JE X c E a sa) (hg : Gl X "sorted" := by rfl) (hs : starEach [a] X.env = (false, eval a X.env) :: starEach [] X.env := by rfl)
    (he : backTo pos (starEach [a] X.env) = (false, eval a X.env) :: backTo pos (starEach [] X.env) := by rfl) (hpl : (backTo pos (starEach [a] X.env)).any (·.1) = false := by rfl)
    (hall : (backToKw pos (keywordEach [⟨some "reverse", .Constant (.bool true) j p2, kpos⟩] X.env)).all (·.1.isSome) = true := by rfl) (hnone : (backToKw pos (keywordEach [⟨some "reverse", .Constant (.bool true) j p2, kpos⟩] X.env)).any (·.1.isNone) = false := by rfl)
    (hks : (backToKw pos (keywordEach [⟨some "reverse", .Constant (.bool true) j p2, kpos⟩] X.env)).filterMap (·.1) = [Str.ofString "reverse"] := by rfl) : JE X c E (.Call (.Name "sorted" p) [a] [⟨some "reverse", .Constant (.bool true) j p2, kpos⟩] pos) (sOp1 sortedRD sa) :=
  pe_imp (pe_callBK (cr_sortedRev (b := true)) hg hm bt_sorted (pa_cons ha pa_nil hs) (pk_cons pe_bl pk_nil) (by decide) (by decide) he hpl hall hnone hks) fun _ _ _ q => op1_run ro_sortedR q
end Eng

/-! enumerate of a list, of a tuple -/
namespace PySem
namespace EnT
open AutoSeq1 (wpAny_loadPart')
theorem meets_enumerate_newT (l : Addr) (items : Array Value) (n : Nat) (dct : Option Addr) (sl : Array (Option Value)) :
    Meets (Builtin.«enumerate.__new__» ⟨[.type "enumerate", .ref l], []⟩) (fun _ R s => s.heap.get? l = some { cls := .type "tuple", dict := dct, data := .seq items n, slots := sl } ∧
      R (.ok (.ret (.ref (s.heap.push { cls := .type "tuple_iterator", data := .fields #[.ref l, .int 0 0] }).objs.size)))
        { s with heap := (s.heap.push { cls := .type "tuple_iterator", data := .fields #[.ref l, .int 0 0] }).push { cls := .type "enumerate", data := .fields #[.none, .bool false, .ref s.heap.objs.size, rawInt 0, .none, .none] } }) :=
  .of_wp fun prog w A R s h => by
    obtain ⟨hp, g, d, tk, os⟩ := s; obtain ⟨hl, h⟩ := h
    have hsub := sub_enumerate
    have hL : Heap.IsTuple (Shared.heap ⟨hp, g, d, tk, os⟩) l items := ⟨_, hl, rfl, n, rfl⟩
    wp_walk using wpAny_loadPart' hl
    refine wpAny_stack_any fun st => wpAny_pure ?_
    split
    · rename_i c _ _ _ _ _
      cases (c == Value.type "enumerate")
      · wp_walk using wpAny_loadPart' hl, wpAny_pyIter_tuple hL
        exact ⟨_, rfl, h⟩
      · wp_walk using wpAny_loadPart' hl, wpAny_pyIter_tuple hL
        exact ⟨_, rfl, h⟩
    · wp_walk using wpAny_loadPart' hl, wpAny_pyIter_tuple hL
      exact ⟨_, rfl, h⟩
section
variable {prog : Program} {w : World} {A : Around} {E : Value → Shared → Prop} {s : Shared}
theorem call_enumerate_tuple {l : Addr} {items : Array Value} {Q : Value → Shared → Prop} (hL : s.heap.IsTuple l items)
    (h : ∀ h', IsEnum h' (s.heap.objs.size + 1) s.heap.objs.size 0 .none → h'.IsTupleIter s.heap.objs.size l 0 → h'.objs.size = s.heap.objs.size + 2 →
      (∀ b o, s.heap.get? b = some o → h'.get? b = some o) → Q (.ref (s.heap.objs.size + 1)) { s with heap := h' }) :
    wpAny (model prog w) A (call (.type "enumerate") [.ref l]) Q E s := by
  obtain ⟨⟨c, dct, dt, sl⟩, hl, hc, n, hd⟩ := hL
  replace hc : c = .type "tuple" := hc
  replace hd : dt = .seq items n := hd
  subst hc hd
  refine callType_new F.called_enumerate (by decide) (F.typeCall_enumerate_1 _) (F.newCall_enumerate_1 _) (fun obj => F.args_object_init_2 obj _) F.entry_enumerate_new
    (meets_enumerate_newT l items n dct sl) ⟨hl, ?_⟩
  have hz : (s.heap.push { cls := .type "tuple_iterator", data := .fields #[.ref l, .int 0 0] }).objs.size = s.heap.objs.size + 1 := Heap.size_push ..
  show _ ∧ _
  rw [hz]
  have he : IsEnum ((s.heap.push { cls := .type "tuple_iterator", data := .fields #[.ref l, .int 0 0] }).push
      { cls := .type "enumerate", data := .fields #[.none, .bool false, .ref s.heap.objs.size, rawInt 0, .none, .none] }) (s.heap.objs.size + 1) s.heap.objs.size 0 .none := by
    have := Heap.get?_push_size (s.heap.push { cls := .type "tuple_iterator", data := .fields #[.ref l, .int 0 0] })
      (o := { cls := .type "enumerate", data := .fields #[.none, .bool false, .ref s.heap.objs.size, rawInt 0, .none, .none] }) rfl
    rw [hz] at this; exact this
  refine ⟨⟨_, he, rfl⟩, h _ he ⟨_, Heap.get?_push_of_some _ (Heap.get?_push_size _ rfl), rfl, rfl⟩ (by rw [Heap.size_push, hz]) fun b o x => Heap.get?_push_of_some _ (Heap.get?_push_of_some _ x)⟩
end
end EnT
end PySem
namespace Eng
open PySem PySem.Spec PyProof.Rows L2 Evl
variable [Tb]
/-- the tuple at a at each turn, each item in a new pair -/
def IteT (K : PySem.W.Frag) (a : Addr) : It :=
  ⟨fun i H => ∃ (xs : List V) (x : V), SqT K H a xs ∧ xs[i]? = some x, fun i H v H' => ∃ T x, v = .ref T ∧ H T = none ∧ H' = upd H T (.tup [.int (i : Nat), x]) ∧ ∀ xs, SqT K H a xs → xs[i]? = some x, fun i H => ∃ xs : List V, SqT K H a xs ∧ xs.length ≤ i⟩
theorem turn_enumT {P : Program} {w : World} {K : PySem.W.Frag} {elts : List Expr} {kk : Nat} {tpos : Pos} (a e it : Addr) (hai : a ≠ it) (hae : e ≠ a) :
    Turn P w K (.Tuple elts kk tpos) (IteT K a) [e, it] e (fun i h => (∃ old, IsEnum h e it ((i : Nat) : Int) old) ∧ h.IsTupleIter it a i ∧ e ≠ it) where
  mem := by simp
  obj := fun i h st b hb => by
    obtain ⟨⟨old, he⟩, ⟨o, ho, hc, hd⟩, _⟩ := st
    have e' : b = e ∨ b = it := by simpa using hb
    rcases e' with z | z
    · rw [z]; exact ⟨_, he, fun v q => nomatch q⟩
    · rw [z]; exact ⟨o, ho, fun v q => by rw [hd] at q; cases q⟩
  keep := fun i h h' st k => let ⟨⟨old, he⟩, hi, hne⟩ := st; ⟨⟨old, k e (by simp) _ he⟩, hi.at fun o q => k it (by simp) o q, hne⟩
  item := by
    intro X hP hw hK hc i pins s σ H E I hf st hg
    subst hP hw hK
    obtain ⟨⟨old, he⟩, hit, hne⟩ := st
    obtain ⟨xs, x, hq, hx⟩ := hg
    obtain ⟨its, rv, p, hz⟩ := I.tuple hq
    obtain ⟨u, hu, ru⟩ := rv.get hx
    have hel : e < s.heap.objs.size := Heap.lt_size he
    have hil : it < s.heap.objs.size := by obtain ⟨_, q, _⟩ := hit; exact Heap.lt_size q
    have hlt : i < its.toArray.size := by
      have := (List.getElem?_eq_some_iff.mp hu).1
      simpa using this
    refine wpAny_pyNext_enum_itemD (Draws.tuple (prog := X.prog) (w := X.w) (A := X.A.in1) (show X.A.in1.handled = none from I.ok.hd hc) it a hai its.toArray) he ⟨hit, p⟩ hlt hne (by simp [hne, hae]) fun x' h' tk hP ho hst hT hsz hk => ?_
    have ex : x' = u := by
      have z : its[i]? = some x' := by simpa using hP
      rw [hu] at z
      exact (Option.some.inj z).symm
    subst ex
    obtain ⟨hit', p'⟩ := hst
    refine ⟨_, rfl, wpAny_letOwnedTupleGo_enum (s := { s with heap := h', toks := tk + 1 }) ho fun h'' he' sb => ?_⟩
    have hT2 : h''.get? s.heap.objs.size = some { cls := .type "tuple", data := .seq #[.int i tk, x'] } := (sb.2 _ (Nat.ne_of_gt hel)).trans hT
    have new : ObjOk X.prog X.w (upd H s.heap.objs.size (.tup [.int (i : Nat), x])) h'' s.heap.objs.size (.tup [.int (i : Nat), x]) :=
      ⟨by show 2 ≤ sizeLine; decide, [.int i tk, x'], .cons ⟨_, rfl⟩ (.cons ru .nil), ⟨_, hT2, rfl, _, rfl⟩⟩
    have I1 : Inv X pins σ (upd H s.heap.objs.size (.tup [.int (i : Nat), x])) { s with heap := h'', toks := tk + 1 } :=
      I.turnedNew (ch := [e, it]) (fun b ob hb q => (sb.2 b (fun z => hb (by simp [z]))).trans (hk b ob (fun z => hb (by simp [z])) (fun z => hb (by simp [z])) q)) hf (Nat.le_refl _) new
    refine ⟨.ref s.heap.objs.size, _, I1, rfl, ⟨_, x, rfl, I.hok.fresh (Nat.le_refl _), rfl, fun ys hy => by rw [I.tuple_inj hy hq]; exact hx⟩, ⟨⟨x', ?_⟩, hit'.at fun o q => (sb.2 it (Ne.symm hne)).trans q, hne⟩, fun b hb => ?_⟩
    · have e1 : ((i + 1 : Nat) : Int) = (i : Int) + 1 := by omega
      rw [e1]; exact he'
    · have hb' : b < s.heap.objs.size := by
        have e' : b = e ∨ b = it := by simpa using hb
        rcases e' with z | z
        · rw [z]; exact hel
        · rw [z]; exact hil
      rw [upd_ne (Nat.ne_of_lt hb')]
      exact (hf b hb).1
  done := by
    intro X hP hw hK hc i pins s σ H E I hf st hg
    subst hP hw hK
    obtain ⟨⟨old, he⟩, hit, hne⟩ := st
    obtain ⟨xs, hq, hx⟩ := hg
    obtain ⟨its, rv, p, hz⟩ := I.tuple hq
    obtain ⟨f0, f1, f2, f3, f4, f5⟩ := hf it (by simp)
    have hl := rv.length
    refine wpAny_pyNext_enum_endD (n := i) (P := fun _ _ => True) (St := fun j h => j = i ∧ h.IsTupleIter it a i ∧ h.IsTuple a its.toArray) (fp := [it, a]) ⟨fun j h st => ?_, fun j h h' st k => ?_, fun j s' Q E hj st => absurd st.1 (Nat.ne_of_lt hj), fun s' Q E st hE => ?_⟩ he ⟨rfl, hit, p⟩ fun h' eb => ⟨rfl, I.turned (t' := s.toks) (fun b o hb q => eb b o hb q) f0 f1 f3 f4 f5⟩
    · obtain ⟨_, ⟨o, ho, _⟩, _⟩ := st; exact ⟨o, ho⟩
    · exact ⟨st.1, st.2.1.at fun o e => k it (by simp) o e, st.2.2.at fun o e => k a (by simp) o e⟩
    · exact wpAny_nextOf_tuple_end (show X.A.in1.handled = none from I.ok.hd hc) st.2.1 st.2.2 (by simp; omega) hE
  self := fun A i s Q E st h => let ⟨⟨_, he⟩, _⟩ := st; wpAny_pyIter_enum he h
theorem walk_enumT {K : PySem.W.Frag} {a : Addr} {xs : List V} : Walk (IteT K a) xs.length (fun H => SqT K H a xs) (YPair (fun i => some (.int (i : Nat))) (fun i => xs[i]?)) := by
  refine ⟨fun i _ hi q => ⟨xs, xs[i], q, by simp [hi]⟩, fun _ q => ⟨xs, q, Nat.le_refl _⟩, fun i H v H' _ q y => ?_⟩
  obtain ⟨T, x, h1, h2, h3, h4⟩ := y
  exact ⟨T, .int (i : Nat), x, h1, h2, h3, rfl, h4 xs q⟩
def iEnU (K : PySem.W.Frag) (te : TE) : TI := fun σ H R => te σ H fun x H1 => ∃ a, x = .ref a ∧ ((∃ xs, SqL K H1 a xs ∧ R (Ite K a) H1) ∨ (∃ xs, SqT K H1 a xs ∧ R (IteT K a) H1))
section
variable {X : Cx} {c : Cc} {E : XS} {p pos tpos : Pos} {elts : List Expr} {kk : Nat} {e : Expr}
theorem pi_enumU {te : TE} (hg : Gl X "enumerate") (hm : X.mg "enumerate" = none) (he : PE X e te) (hs : starEach [e] X.env = [(false, eval e X.env)] := by rfl) :
    PI X (.Tuple elts kk tpos) (.Call (.Name "enumerate" p) [e] [] pos) (iEnU X.K te) := by
  have ha : PA X [e] (tCons te tNil) := pa_cons he pa_nil hs
  refine ⟨fun pins s σ H R I h => ?_⟩
  refine Call_ (ld_blt I hg hm boot_enumerate (PyProof.Rows.callWith_type1 (thn (ha.run pos pins s σ H (fun vs H1 => ∃ x, vs = [x] ∧ ∃ a, x = .ref a ∧ ((∃ xs, SqL X.K H1 a xs ∧ R (Ite X.K a) H1) ∨ (∃ xs, SqT X.K H1 a xs ∧ R (IteT X.K a) H1))) I ?_) fun us s1 ⟨vs, H1, I1, r1, q1⟩ => ?_) hs rfl))
  · have h' := h
    unfold iEnU at h'
    exact by
      show te σ H fun x H1 => _
      have key : (fun x H1 => ∃ a, x = V.ref a ∧ ((∃ xs, SqL X.K H1 a xs ∧ R (Ite X.K a) H1) ∨ (∃ xs, SqT X.K H1 a xs ∧ R (IteT X.K a) H1))) = (fun x H1 => ∃ x', [x] = [x'] ∧ ∃ a, x' = V.ref a ∧ ((∃ xs, SqL X.K H1 a xs ∧ R (Ite X.K a) H1) ∨ (∃ xs, SqT X.K H1 a xs ∧ R (IteT X.K a) H1))) := by
        funext x H1
        refine propext ⟨fun z => ⟨x, rfl, z⟩, fun ⟨x', e1, z⟩ => ?_⟩
        cases e1
        exact z
      rw [key] at h'
      exact h'
  · obtain ⟨x, ex, a, ea, q1⟩ := q1
    subst ex ea
    cases r1 with
    | cons r rr =>
      cases rr
      cases r
      have fin : ∀ {b : Addr}, b = s1.heap.objs.size + 1 ∨ b = s1.heap.objs.size → FpOk X pins H1 b := fun {b} e' => by
        have hle : s1.heap.objs.size ≤ b := by
          rcases e' with z | z
          · rw [z]; exact Nat.le_add_right _ _
          · rw [z]; exact Nat.le_refl _
        exact I1.fpOk hle (I1.hok.fresh hle)
      rcases q1 with ⟨xs, hq, q⟩ | ⟨xs, hq, q⟩
      · obtain ⟨its, rv, p', hz⟩ := I1.list hq
        refine call_enumerate_list p'.isList fun h' he hit hsz hk => wpAny_pyIter_enum he ?_
        have I2 : Inv X pins σ H1 { s1 with heap := h' } := I1.kept (t' := s1.toks) hk
        exact ⟨s1.heap.objs.size + 1, [s1.heap.objs.size + 1, s1.heap.objs.size], _, _, H1, rfl, I2, turn_enum a (s1.heap.objs.size + 1) s1.heap.objs.size, ⟨⟨.none, he⟩, hit, Nat.succ_ne_self _⟩, fun b hb => fin (by simpa using hb), q⟩
      · obtain ⟨its, rv, p', hz⟩ := I1.tuple hq
        have hal : a < s1.heap.objs.size := by obtain ⟨o, ho, _⟩ := p'; exact Heap.lt_size ho
        refine PySem.EnT.call_enumerate_tuple p' fun h' he hit hsz hk => wpAny_pyIter_enum he ?_
        have I2 : Inv X pins σ H1 { s1 with heap := h' } := I1.kept (t' := s1.toks) hk
        exact ⟨s1.heap.objs.size + 1, [s1.heap.objs.size + 1, s1.heap.objs.size], _, _, H1, rfl, I2, turn_enumT a (s1.heap.objs.size + 1) s1.heap.objs.size (Nat.ne_of_lt hal) (Nat.ne_of_gt (Nat.lt_succ_of_lt hal)), ⟨⟨.none, he⟩, hit, Nat.succ_ne_self _⟩, fun b hb => fin (by simpa using hb), q⟩
def enD (ds : List D) : List D := ds.zipIdx.map fun p => .tup [.int (p.2 : Nat), p.1]
def siEnum (se : SE) : SI := fun s => (se s).bind fun w s1 => (frz w s1).bind fun d s2 => match dataOf d with
  | some ds => .ok (enD ds) s2
  | none => .bad
theorem enD_len (ds : List D) : (enD ds).length = ds.length := by unfold enD; simp
theorem walk_en {K : PySem.W.Frag} {J : It} {B : Hp} {xs : List V} {ds : List D} {G : Hp → Prop} (wk : Walk J xs.length G (YPair (fun i => some (.int (i : Nat))) (fun i => xs[i]?))) (hG : ∀ H1, Ex B H1 → G H1) (dq : DqAll K B xs ds) : WalkOk K J B (enD ds) := by
  refine ⟨G, _, by rw [enD_len, ← dq.length]; exact wk, hG, fun i d B1 H1 x H2 hd e1 e2 y => ?_⟩
  obtain ⟨T, x1, x2, rfl, nT, rfl, h1, h2⟩ := y
  unfold enD at hd
  rw [List.getElem?_map, List.getElem?_zipIdx] at hd
  cases hz : ds[i]? with
  | none => rw [hz] at hd; cases hd
  | some dd =>
    rw [hz] at hd
    simp at hd
    subst hd
    obtain ⟨v, h3, h4⟩ := dq.get hz
    cases h1
    have e3 : x2 = v := by
      have z : xs[i]? = some x2 := h2
      rw [h3] at z
      exact (Option.some.inj z).symm
    subst e3
    exact ⟨_, .data nT (.tup (SqT.of upd_same) (.cons (.int _) (.cons ((h4.mono e1).mono (Ex.new (bn e2 nT))) .nil)))⟩
theorem ji_enum {se : SE} (hm : X.mg "enumerate" = none) (h : JE X c E e se) (hg : Gl X "enumerate" := by rfl) (hs : starEach [e] X.env = [(false, eval e X.env)] := by rfl) : JI X c E (.Tuple elts kk tpos) (.Call (.Name "enumerate" p) [e] [] pos) (siEnum se) := pi_imp (pi_enumU hg hm h hs) fun σ H R ⟨B, s, I, q⟩ => by
  refine trE_mono (bindE (P := fun r => PostI X.K c E B H σ s r R) (.refl I) q (fun _ _ z => z) id) fun x H1 ⟨B1, s1, w, A1, _, V1, N1, q1⟩ => ?_
  cases z : frz w s1 with
  | ok d s2 =>
    rw [z] at q1
    obtain ⟨B2, A2, dq⟩ := frz_ok A1 V1 N1 z
    cases d with
    | lst ds =>
      cases dq with
      | lst h1 h2 => exact ⟨_, rfl, .inl ⟨_, SqL.of (A2.si.ex _ _ h1), q1 _ B2 H1 A2 (walk_en walk_enum (fun H1 e => SqL.of (e _ _ h1)) h2)⟩⟩
    | tup ds =>
      cases dq with
      | tup h1 h2 => exact ⟨_, rfl, .inr ⟨_, ex_t A2.si.ex h1, q1 _ B2 H1 A2 (walk_en walk_enumT (fun H1 e => ex_t e h1) h2)⟩⟩
    | _ => exact q1.elim
  | exc y s2 => exact absurd z frz_exc
  | bad => rw [z] at q1; exact q1.elim
end
end Eng

/-! calls by keyword alone -/
namespace Eng
open PySem PySem.Spec PyProof.Rows L2 Evl
variable [Tb]
def sCallK (t : Bool) (f : FD) (sa : SA) : SE := fun s => (sa s).bind fun ds s1 => match f (0, 0, 0) (kwG t ds) with
  | .ok r _ => .ok (.dat r) s1
  | .exc x _ => .exc x s1
  | .bad => .bad
theorem vals_kw {t : Bool} {vs : List V} {us : List Value} (r : Vals vs us) : Vals (kwG t vs) (kwG t us) := by
  cases t with
  | false => exact r
  | true => exact Vals.reverse r
theorem dq_kw {K : PySem.W.Frag} {H : Hp} {t : Bool} {vs : List V} {ds : List D} (r : DqAll K H vs ds) : DqAll K H (kwG t vs) (kwG t ds) := by
  cases t with
  | false => exact r
  | true => exact r.reverse
section
variable {X : Cx} {c : Cc} {E : XS} {pos p : Pos} {CX : CXT} {k n : Nat} {ps : List Str} {f : FD} {x : Str} {kws : List Keyword} {sa : SA} {fa : Addr} {fd : FuncData}
theorem je_callK (t : Bool) (F : FnG X.prog X.w X.K X.mg X.base CX k fa fd ps (spP X.K f)) (hr : Room k X.A) (hgd : X.A.guards = some []) (hm : X.mg x = some (.ref fa)) (hk : PySem.W.keepIn X.K (.ref fa) = true) (hb : KwB X.K fd ps) (hx : ∀ σ, PassesAt CX X σ (E σ)) (ha : JK X c E kws sa)
    (hks : (backToKw pos (keywordEach kws X.env)).filterMap (·.1) = kwN t ps := by rfl) (hg : Gl X x := by rfl) (hd : (x == ("__debug__" : Str)) = false := by decide)
    (hall : (backToKw pos (keywordEach kws X.env)).all (·.1.isSome) = true := by rfl) (hpl : ((backTo pos (starEach [] X.env)).any (·.1) || (backToKw pos (keywordEach kws X.env)).any (·.1.isNone)) = false := by rfl) : JE X c E (.Call (.Name x p) [] kws pos) (sCallK t f sa) := by
  refine ⟨fun pins s σ H Q I h => ?_⟩
  obtain ⟨B0, s0, I0, q⟩ := of_tr h
  refine wpAny_Call_Name_kw (ld_glob I hg hm ?_ hd)
  refine PySem.W.callWith_KW0 (h₀ := X.base) I.ok.mod.kin hk hall (thn (ha.run pos pins s σ H _ I (bindAP (.refl I0) q)) fun us s1 ⟨vs, H1, I1, r1, B1, s2, ds, A1, _, dq, q1⟩ => ⟨I1.kIn, ?_⟩) hpl
  rw [hks]
  show wpAny _ _ (call (.ref fa) [] ((kwN t ps).zip us)) _ _ _
  have sp : spP X.K f (kwG t vs) H1 Q (E σ) := by
    refine ⟨B1, kwG t ds, A1.si.ex, dq_kw dq, A1.si.tb, ?_⟩
    cases z : f (0, 0, 0) (kwG t ds) with
    | ok r k =>
      simp only [z] at q1
      exact fun v B' H' F d => q1 v B' H' (call_aft A1 F) d trivial
    | exc x k =>
      simp only [z] at q1
      exact fun cls dd B' H' F d => q1 cls dd B' H' (call_aft A1 F) d
    | bad => simp only [z] at q1; exact q1.elim
  have hl : us.length = ps.length := by
    have z := F.len _ _ _ _ sp
    have z2 : (kwG t vs).length = vs.length := by unfold kwG; split <;> simp
    rw [← r1.length, ← z2, z]
  refine wpAny_call (codeAny_mono (F.run X.A X.stack s1 H1 ⟨[], (kwN t ps).zip us⟩ (kwG t us) (kwG t vs) Q (E σ) hr hgd I1.env0 (hb t s1 us I1.kIn hl) (vals_kw r1) sp) fun r s' hq => ?_)
  have z := cr_end (hx σ) I1 hq
  cases r with
  | error e => exact z
  | ok fl => cases fl <;> exact z
theorem je_callKD (t : Bool) (D : Df X.prog X.w X.K X.mg X.base x k ps (spP X.K f)) (hr : Room n X.A) (hgd : X.A.guards = some []) (ha : JK X c E kws sa) (hk : k ≤ n := by decide)
    (hks : (backToKw pos (keywordEach kws X.env)).filterMap (·.1) = kwN t ps := by rfl) (hg : Gl X x := by rfl) (hd : (x == ("__debug__" : Str)) = false := by decide)
    (hall : (backToKw pos (keywordEach kws X.env)).all (·.1.isSome) = true := by rfl) (hpl : ((backTo pos (starEach [] X.env)).any (·.1) || (backToKw pos (keywordEach kws X.env)).any (·.1.isNone)) = false := by rfl) : JE X c E (.Call (.Name x p) [] kws pos) (sCallK t f sa) := by
  obtain ⟨fa, fd, F, hm, hkp, _, hb⟩ := D.ex
  exact je_callK t F (hr.mono hk) hgd hm hkp hb passE ha hks hg hd hall hpl
end
end Eng

/-! seen = set(); for x in xs: if not t or x in seen: return False; seen.add(x); return True -/
namespace Eng
open PySem PySem.Spec PyProof.Rows L2 Evl
variable [Tb]
theorem AftS.besides {K : PySem.W.Frag} {c : Cc} {B H B0 H0 : Hp} {σ σ0 : L2.St} {s s0 : S} (A : AftS K c B0 H0 σ0 s0 B H σ s) {p : Addr} {o : HO} (wr : Wr H p) (n : Nn H0 p) (hB : B p = none) (no : ¬ Own s.env σ p) (nc : c.cup ≠ some p) : AftS K c B0 H0 σ0 s0 B (upd H p o) σ s := by
  have ne : ∀ a u, H0 a = some u → nT u → a ≠ p := fun a u h t => n.ne h t
  refine ⟨⟨A.st.bb, fun a u h t h1 h2 => by rw [upd_ne (ne a u h t)]; exact A.st.hh a u h t h1 h2, A.st.gr, A.st.ow, fun a u h t => ?_⟩, A.si.besides wr hB no nc⟩
  rw [upd_ne (ne a u h t)]
  exact A.st.th a u h t
theorem nT_set {w : World} {p : Addr} {S : Int → Bool} {n : Nat} : nT (SetO w p S n) := fun _ z => by unfold SetO at z; cases z
theorem Wr.set {w : World} {H : Hp} {p : Addr} {S : Int → Bool} {n : Nat} (h : H p = some (SetO w p S n)) : Wr H p := fun u hu => by
  rw [h] at hu
  cases hu
  refine ⟨nT_set, fun c q z => ?_⟩
  unfold SetO LamX.CodeO at z
  injection z with z
  have hg : ({ objs := Array.replicate (c + 1) { cls := .none, data := .fields #[.none, .str q default] } } : Heap).get? c = some { cls := .none, data := .fields #[.none, .str q default] } := by
    simp [Heap.get?]
  have k := congrFun z { objs := Array.replicate (c + 1) { cls := .none, data := .fields #[.none, .str q default] } }
  have k2 : SetR w { objs := Array.replicate (c + 1) { cls := .none, data := .fields #[.none, .str q default] } } p S n := by
    rw [k]
    exact ⟨_, _, _, hg, rfl, rfl⟩
  obtain ⟨o, es, ep, t, ho, hex, hd, _⟩ := k2
  have hp : o = { cls := .none, data := .fields #[.none, .str q default] } := by
    simp only [Heap.get?] at ho
    rw [Array.getElem?_replicate] at ho
    split at ho
    · cases ho
    · split at ho
      · cases ho; rfl
      · cases ho
  rw [hp] at hd
  cases hd
def unlL (iP : Nat) (st : SB) : List D → List Int → S → Res Out
  | [], _, s => .ok (.ret (.bl true)) s
  | d :: ds, seen, s => match st (setSl s iP (.val d)) with
    | .ok true s1 => (match s1.env[iP]? with
      | some (.val (.int k)) => if k ∈ seen then .ok (.ret (.bl false)) s1 else if seen.length + 1 < 4096 then unlL iP st ds (k :: seen) s1 else .bad
      | _ => .bad)
    | .ok false s1 => .ok (.ret (.bl false)) s1
    | _ => .bad
def sUnl (iS iP : Nat) (si : SI) (st : SB) : SS := fun s => match si (setSl s iS .no) with
  | .ok ds s1 => unlL iP st ds [] s1
  | _ => .bad
def tUnlB (K : PySem.W.Frag) (w : World) (c : Cc) (iS iP : Nat) (st : SB) : TS := tSeq
  (fun D σ H => tOr (trT K c EN (sNot st)) (tTest (L2.tOp (rSIn w) (tVar iP) (tVar iS))) σ H fun k H1 => if k = true then D.rt (.bl false) H1 else D.nx σ H1)
  (fun D σ H => tSAdd w (tVar iS) (tCons (tVar iP) tNil) σ H fun _ H1 => D.nx σ H1)
theorem unl_run {K : PySem.W.Frag} {w : World} {c : Cc} {iS iP : Nat} {si : SI} {st : SB} {D : Ends} {σ : L2.St} {H : Hp} (hne : iS ≠ iP) (h : trS K c EN (sUnl iS iP si st) D σ H) (hlen : iS < σ.length) (hlen2 : iP < σ.length) :
    tSeq (L2.tAsg (tCB (rSet0 w) tNil) (gName iS)) (tSeq (tFor (trI K c EN si) (gName iP) (tUnlB K w c iS iP st)) (fun D σ H => D.rt (.bl true) H)) D σ H := by
  obtain ⟨B, s, I, q⟩ := h
  refine ⟨rfl, fun p np => ?_⟩
  have A0 : AftS K c B H σ s B H (σ.set iS (some (.ref p))) (setSl s iS .no) := set_no I
  have bp : B p = none := I.bnone np
  have A1 : AftS K c B H σ s B (upd H p (SetO w p (fun _ => false) 0)) (σ.set iS (some (.ref p))) (setSl s iS .no) := A0.trans ⟨.newH np, A0.si.newH np⟩
  unfold sUnl at q
  refine ⟨B, _, A1.si, ?_⟩
  cases e : si (setSl s iS .no) with
  | exc x s1 => rw [e] at q; exact q.elim
  | bad => rw [e] at q; exact q.elim
  | ok ds s1 =>
    rw [e] at q
    intro J B1 H1 A2 W
    obtain ⟨G, Y, wk, hG, hY⟩ := W
    have lst_ne : ∀ {B' H' : Hp} {σ' : L2.St} {s' : S} {S' : Int → Bool} {n : Nat}, Sim K c B' H' σ' s' → H' p = some (SetO w p S' n) → ¬ Own s'.env σ' p ∧ c.cup ≠ some p := fun {B' H' σ' s' S' n} I' hp => by
      refine ⟨fun ⟨j, es, z1, z2⟩ => ?_, fun z => ?_⟩
      · obtain ⟨_, vs, z3, _⟩ := I'.ownB z1 z2
        rw [hp] at z3
        cases z3
      · obtain ⟨_, z3, _⟩ := I'.cu p z
        rw [hp] at z3
        cases z3
    have keepB : ∀ {B' H' B'' H'' : Hp} {σ' σ'' : L2.St} {s' s'' : S} {S' : Int → Bool} {n : Nat}, Sim K c B' H' σ' s' → H' p = some (SetO w p S' n) → B' p = none → Stp c B' H' σ' s'.env B'' H'' σ'' s''.env → H'' p = some (SetO w p S' n) ∧ B'' p = none := fun {B' H' B'' H'' σ' σ'' s' s'' S' n} I' hp hb t => by
      obtain ⟨no, nc⟩ := lst_ne I' hp
      refine ⟨t.hh p _ hp nT_set no nc, ?_⟩
      cases z : B'' p with
      | none => rfl
      | some o =>
        rcases t.gr p o z with y | y | y
        · exact absurd hb y
        · exact absurd nT_set (y _ hp)
        · exact absurd y no
    have h1p : H1 p = some (SetO w p (fun _ => false) 0) ∧ B1 p = none := keepB (s' := setSl s iS .no) (s'' := s1) A1.si upd_same bp A2.st
    refine for_it wk (fun i σ2 H2 => ∃ B2 s2 seen n S', AftS K c B H σ s B2 H2 σ2 s2 ∧ Ex B1 B2 ∧ σ2[iS]? = some (some (.ref p)) ∧ H2 p = some (SetO w p S' n) ∧ (∀ j, S' j = decide (j ∈ seen)) ∧ n ≤ seen.length ∧ B2 p = none ∧ σ2.length = σ.length ∧ PostS K c EN B H σ s (unlL iP st (ds.drop i) seen s2) D)
      ⟨B1, s1, [], 0, _, A1.trans A2.toS, Ex.refl _, by rw [List.getElem?_set_self hlen], h1p.1, fun j => by simp, Nat.le_refl _, h1p.2, by simp, q⟩ (fun i σ2 H2 _ ⟨B2, s2, _, _, _, A2', e2, _⟩ => hG H2 (e2.trans A2'.si.ex)) ?_ ?_
    · rintro i x σ2 H2 H3 hi ⟨B2, s2, seen, n, S', A3, e2, hσ, hp, hS, hn, hb, hl2, q2⟩ y
      have hd : ds[i]? = some ds[i] := List.getElem?_eq_getElem hi
      rw [List.drop_eq_getElem_cons hi] at q2
      obtain ⟨B3, m⟩ := hY i _ B2 H2 x H3 hd e2 A3.si.ex y
      obtain ⟨A4, V4, _⟩ := m.aft (.refl A3.si)
      obtain ⟨hp4, hb4⟩ := keepB (s' := s2) (s'' := s2) A3.si hp hb A4.st
      have A5 := A4.toS.trans (set_val (i := iP) A4.si V4)
      have A35 := A3.trans A5
      have hσ5 : (σ2.set iP (some x))[iS]? = some (some (.ref p)) := by rw [List.getElem?_set_ne (fun z => hne z.symm)]; exact hσ
      simp only [unlL] at q2
      refine ⟨B3, _, A5.si, ?_⟩
      show PostB K c EN B3 H3 _ _ (sNot st (setSl s2 iP (.val ds[i]))) _
      unfold sNot
      cases zt : st (setSl s2 iP (.val ds[i])) with
      | exc x' s4 => rw [zt] at q2; exact q2.elim
      | bad => rw [zt] at q2; exact q2.elim
      | ok b s4 =>
        rw [zt] at q2
        intro B4 H4 A6
        have A36 := A35.trans A6.toS
        obtain ⟨hp6, hb6⟩ := keepB (s' := setSl s2 iP (.val ds[i])) (s'' := s4) A5.si hp4 hb4 A6.st
        cases b with
        | false =>
          refine iteT ?_
          show D.rt (.bl false) H4
          exact q2 (.bl false) B4 H4 _ A36 (.bl false)
        | true =>
          refine iteF ?_
          have q3 : PostS K c EN B H σ s (match s4.env[iP]? with
            | some (.val (.int k)) => if k ∈ seen then .ok (.ret (.bl false)) s4 else if seen.length + 1 < 4096 then unlL iP st (ds.drop (i + 1)) (k :: seen) s4 else .bad
            | _ => .bad) D := q2
          cases e4 : s4.env[iP]? with
          | none => rw [e4] at q3; exact q3.elim
          | some sl =>
            rw [e4] at q3
            cases sl with
            | val dd =>
              cases dd with
              | int k =>
                obtain ⟨v, hv1, hv2⟩ := A6.si.slot iP _ e4
                cases hv2
                refine ⟨_, hv1, _, hσ5, k, p, S', n, rfl, rfl, hp6, S' k, rfl, ?_⟩
                by_cases hk : k ∈ seen
                · have : S' k = true := by rw [hS k]; exact decide_eq_true hk
                  rw [this]
                  show D.rt (.bl false) H4
                  have q4 : PostS K c EN B H σ s (if k ∈ seen then .ok (.ret (.bl false)) s4 else if seen.length + 1 < 4096 then unlL iP st (ds.drop (i + 1)) (k :: seen) s4 else .bad) D := q3
                  rw [if_pos hk] at q4
                  exact q4 (.bl false) B4 H4 _ A36 (.bl false)
                · have : S' k = false := by rw [hS k]; exact decide_eq_false hk
                  rw [this]
                  show tSAdd w (tVar iS) (tCons (tVar iP) tNil) _ H4 _
                  have q4 : PostS K c EN B H σ s (if k ∈ seen then .ok (.ret (.bl false)) s4 else if seen.length + 1 < 4096 then unlL iP st (ds.drop (i + 1)) (k :: seen) s4 else .bad) D := q3
                  rw [if_neg hk] at q4
                  split at q4
                  · rename_i hbd
                    obtain ⟨no6, nc6⟩ := lst_ne A6.si hp6
                    refine ⟨_, hσ5, ⟨p, S', n, rfl, hp6⟩, _, hv1, p, k, S', n, rfl, rfl, hp6, by show n + 1 < 4096; omega, ?_⟩
                    rw [this, if_neg (by decide)]
                    exact ⟨B4, s4, k :: seen, n + 1, _, A36.besides (.set hp6) (.of np) hb6 no6 nc6, ((e2.trans A4.st.bb).trans (Ex.refl _)).trans A6.st.bb, hσ5, upd_same, fun j => by
                      show (S' j || decide (j = k)) = decide (j ∈ k :: seen)
                      rw [hS j]
                      by_cases z1 : j = k <;> by_cases z2 : j ∈ seen <;> simp [z1, z2], by rw [List.length_cons]; omega, hb6, by rw [List.length_set]; exact hl2, q4⟩
                  · exact q4.elim
              | _ => exact q3.elim
            | _ => exact q3.elim
    · rintro σ2 H2 ⟨B2, s2, seen, n, S', A3, e2, _, _, _, _, _, _, q2⟩
      rw [List.drop_length] at q2
      exact q2 (.bl true) B2 H2 σ2 A3 (.bl true)
end Eng

/-! the rule: seen = set(); for x in xs: if not t or x in seen: return False; seen.add(x); return True -/
namespace Eng
open PySem PySem.Spec PyProof.Rows L2 Evl
variable [Tb]
def sUnlG (iS iP : Nat) (si : SI) (st : SB) : SS := fun s => if iS < s.env.length ∧ iP < s.env.length then sUnl iS iP si st s else .bad
section
variable {X : Cx} {c : Cc}
theorem js_unl {xS xP : Str} {xs e : Expr} {si : SI} {st : SB} {iS iP : Nat} {p1 p2 p3 p4 p5 p6 p7 p8 p9 p10 p11 p12 p13 p14 p15 p16 p17 p18 q1 q2 q3 : Pos} {j1 j2}
    (hp : PassesOwn (model X.prog X.w) X.A X.env X.xe) (hms : X.mg "set" = none) (hne : iS ≠ iP) (hi : JI X c EN (.Name xP p4) xs si) (ht : JT X c EN e st) (hN : X.N.Nodup)
    (hS : X.N[iS]? = some xS := by rfl) (hP : X.N[iP]? = some xP := by rfl) (hc : X.calm = true := by rfl) (hg : Gl X "set" := by rfl)
    (hlS : Loc X.env.scope xS := by first | exact Or.inl rfl | exact Or.inr rfl) (hlP : Loc X.env.scope xP := by first | exact Or.inl rfl | exact Or.inr rfl)
    (hfS : X.fn xS = true ∨ X.env.scope.names.lookup xS = some .local := by first | exact .inl rfl | exact .inr rfl)
    (hfP : X.fn xP = true ∨ X.env.scope.names.lookup xP = some .local := by first | exact .inl rfl | exact .inr rfl)
    (hvS : Vis X.env.scope xS := by first | exact Or.inl rfl | exact Or.inr (Or.inl rfl) | exact Or.inr (Or.inr rfl))
    (hvP : Vis X.env.scope xP := by first | exact Or.inl rfl | exact Or.inr (Or.inl rfl) | exact Or.inr (Or.inr rfl))
    (hdS : (xS == ("__debug__" : Str)) = false := by decide) (hcS : (xS == ("__classdict__" : Str)) = false := by decide)
    (hdP : (xP == ("__debug__" : Str)) = false := by decide) (hcP : (xP == ("__classdict__" : Str)) = false := by decide)
    (w1 : swapsWith (.Call (.Name "set" p2) [] [] p3) (some (.Name xS p1)) p5.line X.env = pure false := by rfl)
    (w2 : ∀ x, foldedSetIterable xs X.env x = pure x := by intro _; rfl)
    (w3 : behindInMarks .In (.Name xS p6) = false := by with_unfolding_all rfl)
    (w4 : attributeBase (.Name xS p7) "add" X.env (eval (.Name xS p7) X.env) = eval (.Name xS p7) X.env := by rfl)
    (w5 : ((backTo p10 (starEach [Expr.Name xP p8] X.env)).all (fun x => !x.1) && (backToKw p10 (keywordEach [] X.env)).all (fun x => x.1.isSome)
      && decide (([Expr.Name xP p8]).length + ([] : List Keyword).length + (if ([] : List Keyword).isEmpty then 0 else 1) < 30)) = true := by rfl)
    (w6 : (p9.endLine == p10.line) = true := by rfl) (w7 : starEach [Expr.Name xP p8] X.env = (false, eval (.Name xP p8) X.env) :: starEach [] X.env := by rfl) (w8 : (backTo p10 (starEach [] X.env)).any (·.1) = false := by rfl)
    (w9 : swapsWith (.Call (.Attribute (.Name xS p7) "add" p9) [.Name xP p8] [] p10) none p11.line X.env = pure false := by rfl) :
    JSs X c EN [.Assign [.Name xS p1] (.Call (.Name "set" p2) [] [] p3) p5,
      .For (.Name xP p4) xs [.If (.BoolOp .Or [.UnaryOp .Not e p12, .Compare (.Name xP p13) [.In] [.Name xS p6] p14] p15) [.Return (some (.Constant (.bool false) j1 p16)) p17] [] p18,
        .Expr (.Call (.Attribute (.Name xS p7) "add" p9) [.Name xP p8] [] p10) p11] [] q1,
      .Return (some (.Constant (.bool true) j2 q2)) q3] (sUnlG iS iP si st) := by
  refine pss_imp (pss_cons (ps_set hN hS hlS (pe_callTy0 cr_set0 hg hms rfl) w1 hfS) (pss_cons (ps_for hp hc hi (pg_name hN hP hlP hfP)
    (pss_cons (ps_if (pw_or (jt_not ht) (pw_or1 (pt_cmpR or_sin (pe_var hP hvP hdP hcP) (pe_var hS hvS hdS hcS) w3))).pt (pss_one (ps_ret pe_bl)) pss_nil) (pss_one (ps_expr (pe_sadd (pe_var hS hvS hdS hcS) (pa_cons (pe_var hP hvP hdP hcP) pa_nil w7) w4 w5 w6 w7 w8) w9))) w2) (pss_one (ps_ret pe_bl)))) ?_
  rintro D σ H ⟨B, s, I, q⟩
  unfold sUnlG at q
  split at q
  · rename_i hl
    exact unl_run hne ⟨B, s, I, q⟩ (by rw [I.len]; exact hl.1) (by rw [I.len]; exact hl.2)
  · exact q.elim
end
end Eng

/-! pure side: what isinstance answers on data -/
namespace Eng
open PySem PySem.Spec PyProof.Rows L2 Evl
variable [Tb]
theorem kit_ii : kitB "int" "int" = some true := by decide +kernel
theorem kit_ib : kitB "int" "bool" = some false := by decide +kernel
theorem kit_it : kitB "int" "tuple" = some false := by decide +kernel
theorem kit_bi : kitB "bool" "int" = some true := by decide +kernel
theorem kit_bb : kitB "bool" "bool" = some true := by decide +kernel
theorem kit_tt : kitB "tuple" "tuple" = some true := by decide +kernel
theorem kit_ti : kitB "tuple" "int" = some false := by decide +kernel
theorem kit_lt : kitB "list" "tuple" = some false := by decide +kernel
theorem isi_int_int (x : Int) : isiD "int" (.int x) = some (.dat (.bl true)) := by unfold isiD; simp only [tyD, Option.bind_some, kit_ii, Option.map_some]
theorem isi_int_bool (x : Int) : isiD "bool" (.int x) = some (.dat (.bl false)) := by unfold isiD; simp only [tyD, Option.bind_some, kit_ib, Option.map_some]
theorem isi_tup_tuple (x : List D) : isiD "tuple" (.tup x) = some (.dat (.bl true)) := by unfold isiD; simp only [tyD, Option.bind_some, kit_tt, Option.map_some]
/-- a def's answer from its body's -/
theorem defP_ret {n ar : Nat} {ss : SS} {c : Cup} {ds : List D} {d : D} {s' : S} (h1 : ds.length = ar) (h2 : ar ≤ n) (e : ss ⟨ds.map .val ++ List.replicate (n - ar) .no, (0, 0, 0)⟩ = .ok (.ret d) s') : defP n ar ss c ds = .ok d (0, 0, 0) := by
  unfold defP; rw [if_pos ⟨h1, h2⟩, e]
theorem defP_next {n ar : Nat} {ss : SS} {c : Cup} {ds : List D} {s' : S} (h1 : ds.length = ar) (h2 : ar ≤ n) (e : ss ⟨ds.map .val ++ List.replicate (n - ar) .no, (0, 0, 0)⟩ = .ok .next s') : defP n ar ss c ds = .ok .non (0, 0, 0) := by
  unfold defP; rw [if_pos ⟨h1, h2⟩, e]
/-- a comprehension of one name, without a condition, whose item's reading changes nothing -/
theorem lcL_map {i : Nat} {se : SE} {g : D → D} {s : S} (hf : freeV s.env [i] = true) (hb : (s.env[i]?).isSome = true) :
    ∀ (ds acc : List D), (∀ d ∈ ds, se ⟨s.env.set i (.val d), s.cup⟩ = .ok (.dat (g d)) ⟨s.env.set i (.val d), s.cup⟩) → acc.length + ds.length ≤ line → lcL (sgName i) sYes se [i] ds acc s = .ok (.fr (acc ++ ds.map g)) s
  | [], acc, _, _ => by simp [lcL]
  | d :: ds, acc, h, hl => by
    have e1 : sgName i d (wipeS s [i]) = some ⟨s.env.set i (.val d), s.cup⟩ := by
      show some (setSl ⟨s.env.set i .no, s.cup⟩ i (.val d)) = _
      simp [setSl, List.set_set]
    have e2 : unwipeS s ⟨s.env.set i (.val d), s.cup⟩ [i] = s := by
      unfold unwipeS
      simp only [unwipeE]
      cases z : s.env[i]? with
      | none => rw [z] at hb; cases hb
      | some sl =>
        simp only [List.set_set]
        have hi : i < s.env.length := (List.getElem?_eq_some_iff.mp z).1
        have : s.env.set i sl = s.env := by
          apply List.ext_getElem?
          intro j
          rw [List.getElem?_set]
          split
          · rename_i e; subst e; first | rw [if_pos hi, z] | exact z.symm
          · rfl
        rw [this]
    unfold lcL
    rw [if_pos hf, e1]
    simp only [sYes, Res.noX, Res.bind, h d (.head _), frz]
    rw [if_pos (by rw [List.length_cons] at hl; omega), e2, lcL_map hf hb ds (acc ++ [g d]) (fun d' m => h d' (.tail _ m)) (by rw [List.length_append]; simp only [List.length_cons, List.length_nil] at hl ⊢; omega)]
    simp
end Eng

/-! sum of a tuple, extend by a tuple -/
namespace Eng
open PySem PySem.Spec PyProof.Rows L2 Evl
variable [Tb]
section
variable {prog : Program} {w : World} {A : Around} {E : Value → Shared → Prop} {s : Shared} {l : Addr} {its : List Value} {ns : List Int} {Q : Value → Shared → Prop}
theorem sum_tup_raw (hh : A.handled = none) (hl : s.heap.IsTuple l its.toArray) (hi : IntsAre its ns)
    (h : ∀ h' tk t', (∀ b o, s.heap.get? b = some o → h'.get? b = some o) → Q (.int ns.sum t') { s with heap := h', toks := tk }) : wpAny (model prog w) A (call (.builtin "sum") [.ref l]) Q E s := by
  obtain ⟨xs, e⟩ := hi.allInts.items
  have hn : numsOf (intItems xs).toList = ns := by rw [← e]; exact hi.numsOf
  rw [nums_intItems] at hn
  rw [e] at hl
  have hlt : l < s.heap.objs.size := by obtain ⟨_, e, _⟩ := hl; exact Heap.lt_size e
  refine PySem.call_sum_walkG (wpAny_pyIter_tuple hl ?_)
  refine ⟨_, _, _, _, _, _, PySem.numAt xs, rfl, PySem.Walks.tuple (A := A.in1) hh _ l (Nat.ne_of_lt hlt) (intItems xs), ⟨⟨_, Heap.get?_push_size _ rfl, rfl, rfl⟩, hl.push _⟩, fun b hb => ?_, (fun _ _ => intItems_at), fun h' tk t' hk => ?_⟩
  · show b < (s.heap.push _).objs.size
    rw [Heap.size_push]
    rcases List.mem_cons.mp hb with rfl | hb
    · exact Nat.lt_succ_self _
    · rcases List.mem_cons.mp hb with rfl | hb
      · exact Nat.lt_succ_of_lt hlt
      · cases hb
  · have := h h' tk t' fun b o eb => hk b o (fun hb => absurd (Heap.lt_size eb) ((List.mem_singleton.mp hb) ▸ Nat.lt_irrefl _)) (Heap.get?_push_of_some _ eb)
    have e2 : PySem.preSum (PySem.numAt xs) xs.size = ns.sum := by rw [PySem.preSum_eq, List.take_of_length_le (by simp), hn]
    have e3 : (intItems xs).size = xs.size := by simp [intItems]
    rw [e3, e2]
    exact this
end
section
variable {X : Cx}
def rSumT (K : PySem.W.Frag) : List V → Hp → VK → Prop := fun vs H Q => ∃ (a : Addr) (ns : List Int), vs = [V.ref a] ∧ (SqL K H a (ns.map V.int) ∨ SqT K H a (ns.map V.int)) ∧ Q (.int ns.sum) H
theorem cr_sumT (hc : X.calm = true) : CallR X (.builtin "sum") (rSumT X.K) := by
  intro pins s σ H vs us Q I r h
  obtain ⟨a, ns, rfl, hs, q⟩ := h
  rw [Vals.ref1 r]
  rcases hs with hs | hs
  · obtain ⟨its, rv, hl, _⟩ := I.list hs
    exact sum_raw (I.ok.hd hc) hl.isList rv.ints fun h' tk t' hk => ⟨.int _, H, I.kept hk, ⟨_, rfl⟩, q⟩
  · obtain ⟨its, rv, hl, _⟩ := I.tuple hs
    exact sum_tup_raw (I.ok.hd hc) hl rv.ints fun h' tk t' hk => ⟨.int _, H, I.kept hk, ⟨_, rfl⟩, q⟩
/-- sum of a list or a tuple of ints -/
def sumTD : D → Option Vw
  | .lst ds => (intsOf ds).map fun ns => .dat (.int ns.sum)
  | .tup ds => (intsOf ds).map fun ns => .dat (.int ns.sum)
  | _ => none
theorem ro_sumT {K : PySem.W.Frag} : RO1 K (fun v H Q => rSumT K [v] H Q) sumTD := by
  intro B H x d w e p q Q k
  cases d <;> simp only [sumTD, reduceCtorEq, Option.map_eq_some_iff] at q
  · obtain ⟨ns, h, rfl⟩ := q
    obtain ⟨a, vs, rfl, h1, h3, h2⟩ := p.tup_inv e
    rw [intsOf_eq h] at h2
    have z := ints_dq h2
    subst z
    exact ⟨a, ns, rfl, .inr h1, k _ B H (.old (.int _))⟩
  · obtain ⟨ns, h, rfl⟩ := q
    obtain ⟨a, vs, rfl, h1, h2⟩ := p.lst_inv
    rw [intsOf_eq h] at h2
    have z := ints_dq h2
    subst z
    exact ⟨a, ns, rfl, .inl (SqL.of h1), k _ B H (.old (.int _))⟩
theorem je_sumT {c : Cc} {E : XS} {pos p : Pos} {a : Expr} {sa : SE} (hm : X.mg "sum" = none) (ha : JE X c E a sa) (hc : X.calm = true := by rfl) (hg : Gl X "sum" := by rfl) (hs : starEach [a] X.env = (false, eval a X.env) :: starEach [] X.env := by rfl) (hpl : (backTo pos (starEach [] X.env)).any (·.1) = false := by rfl) : JE X c E (.Call (.Name "sum" p) [a] [] pos) (sOp1 sumTD sa) :=
  je_b1 (cr_sumT hc) ro_sumT hm bt_sum ha hg (by decide) (by decide) hs hpl
theorem ext_tup (l : Addr) (items : Array Value) (n : Nat) (b : Addr) (od : Option Addr) (items2 : Array Value) (n2 : Nat) (osl : Array (Option Value)) (hs0 : ¬(!items.isEmpty && Builtin.List.listTooLong (items.size + items2.size)) = true) (hs1 : items.size ≤ sizeLine) (hs2 : items.size + items2.size ≤ sizeLine + 1) :
    Meets (Builtin.«list.extend» ⟨[.ref l, .ref b], []⟩) (fun _ R s => s.heap.get? l = some { cls := .type "list", dict := none, data := .seq items n, slots := #[] } ∧ s.heap.get? b = some { cls := .type "tuple", dict := od, data := .seq items2 n2, slots := osl } ∧ R (.ok (.ret Value.none)) { s with heap := s.heap.update l (Obj.mapSeq fun x => x ++ items2), toks := s.toks }) :=
  .of_wp fun prog w A R s h => by
    obtain ⟨hp, g, d, tk, os⟩ := s
    obtain ⟨hl, hb, h⟩ := h
    have f1 := AutoSeq1.idx_int
    have f2 := AutoSeq1.sub_tuple_tuple
    have f3 := AutoSeq1.sub_list_list
    have f4 := AutoSeq1.sub_tuple_list
    have f5 := AutoSeq1.sub_list_tuple
    have hz' : (items ++ items2).size ≤ sizeLine + 1 := by rw [Array.size_append]; exact hs2
    wp_walk using (wpAny_updateSeq hl rfl (hz := hs1) (_hz' := hz')), AutoSeq1.wpAny_loadPart' hl, AutoSeq1.wpAny_loadPart' hb
    exact ⟨_, rfl, h⟩
/-- extend by a list or a tuple -/
def rExtendT (K : PySem.W.Frag) : V → List V → Hp → VK → Prop := fun x vs H Q => ∃ l b xs zs, x = .ref l ∧ vs = [.ref b] ∧ H l = some (.lst xs) ∧ (H b = some (.lst zs) ∨ SqT K H b zs) ∧ xs.length + zs.length ≤ sizeLine ∧ Q .non (upd H l (.lst (xs ++ zs)))
theorem mt_extendT : MtM X "list.extend" (rExtendT X.K) := by
  intro pins s σ H x vs v us Q I rx rv h
  obtain ⟨l, b, xs, zs, rfl, rfl, hH, hB, hz, q⟩ := h
  rcases hB with hB | hB
  · exact mt_extend pins s σ H _ _ v us Q I rx rv ⟨l, b, xs, zs, rfl, rfl, hH, hB, hz, q⟩
  cases rx
  obtain ⟨u, rfl, ru⟩ := rv.one
  cases ru
  obtain ⟨z, its, n, r, hl, e⟩ := I.lstM hH
  obtain ⟨its2, r2, ⟨o, e2, hcl, n2, hd⟩, z2⟩ := I.tuple hB
  have hl2 := r2.length
  have hsz : its.toArray.size + its2.toArray.size ≤ sizeLine := by rw [List.size_toArray, List.size_toArray]; omega
  have hlong : ¬ (!its.toArray.isEmpty && Builtin.List.listTooLong (its.toArray.size + its2.toArray.size)) = true := by
    rw [notLongL hsz, Bool.and_false]
    exact Bool.false_ne_true
  obtain ⟨oc, od, oda, osl⟩ := o
  have hcl' : oc = .type "tuple" := hcl
  have hd' : oda = .seq its2.toArray n2 := hd
  subst hcl' hd'
  refine call_meets F.slot_list_extend ⟨_, e, rfl⟩ F.entry_list_extend (F.args_list_extend_2 _ _)
    (ext_tup l its.toArray n b od its2.toArray n2 osl hlong (by rw [List.size_toArray]; omega) (by omega)) ⟨e, e2, ?_⟩
  refine ⟨.non, _, I.lset (its' := its ++ its2) hH e (by simp) (r.append r2) ?_, rfl, q⟩
  rw [List.length_append]
  omega
end
end Eng
namespace Eng
open PySem PySem.Spec PyProof.Rows L2 Evl
variable [Tb]
def fExtT (ds as : List D) : Option (D × List D) := match as with
  | [.lst xs] => if ds.length + xs.length ≤ line then some (.non, ds ++ xs) else none
  | [.tup xs] => if ds.length + xs.length ≤ line then some (.non, ds ++ xs) else none
  | _ => none
theorem rm_extT {K : PySem.W.Frag} : RMut K (rExtendT K) fExtT := by
  intro B H a vs ys ds as es x e h dq da hf Q k
  unfold fExtT at hf
  split at hf
  · split at hf
    · rename_i z
      cases hf
      cases da with
      | cons h2 da =>
        cases da
        cases h2 with
        | lst h3 h4 => exact ⟨a, _, vs, _, rfl, rfl, h, .inl (e _ _ h3), line_ok (by rw [dq.length, h4.length]; exact z), k _ _ .non (dq.append h4)⟩
    · cases hf
  · split at hf
    · rename_i z
      cases hf
      cases da with
      | cons h2 da =>
        cases da
        cases h2 with
        | tup h3 h4 => exact ⟨a, _, vs, _, rfl, rfl, h, .inr (ex_t e h3), line_ok (by rw [dq.length, h4.length]; exact z), k _ _ .non (dq.append h4)⟩
    · cases hf
  · cases hf
end Eng

/-! sorted of a list of alike data -/
namespace Eng
open PySem PySem.Spec PyProof.Rows L2 Evl
variable [Tb]
open PySem.W (EachIs AllAlike Sortable dataLe)
def rSortedA (K : PySem.W.Frag) : List V → Hp → VK → Prop := fun vs H Q => ∃ (a : Addr) (zs : List (V × PyData)), vs = [V.ref a] ∧ SqL K H a (zs.map (·.1)) ∧ DpAll K H (zs.map (·.1)) (zs.map (·.2)) ∧ AllAlike (zs.map (·.2)) ∧ Sortable (zs.map (·.2)) ∧ (∀ z ∈ zs, z.2.depth ≤ 60) ∧
  ∀ p : Addr, H p = none → Q (.ref p) (upd H p (.lst ((zs.mergeSort (dataLe false fun z => z.2)).map (·.1))))
section
variable {X : Cx}
theorem each_vals : ∀ {zs : List (V × PyData)} {its : List Value}, Vals (zs.map (·.1)) its → EachIs (fun u (z : V × PyData) => RelV z.1 u) its zs
  | [], _, h => by cases h; exact .nil
  | z :: zs, _, h => by
    cases h with
    | cons a b => exact .cons a (each_vals b)
theorem vals_each : ∀ {zs : List (V × PyData)} {its : List Value}, EachIs (fun u (z : V × PyData) => RelV z.1 u) its zs → Vals (zs.map (·.1)) its
  | _, _, .nil => .nil
  | _, _, .cons a b => .cons a (vals_each b)
theorem each_reads {pins : List (Addr × Obj)} {σ : L2.St} {H : Hp} {s : Shared} (I : Inv X pins σ H s) : ∀ {zs : List (V × PyData)} {its : List Value}, Vals (zs.map (·.1)) its → DpAll X.K H (zs.map (·.1)) (zs.map (·.2)) → EachIs (fun u (z : V × PyData) => ∃ as, Reads s.heap u z.2 as) its zs
  | [], _, h, _ => by cases h; exact .nil
  | z :: zs, _, h, d => by
    cases h with
    | cons a b =>
      cases d with
      | cons d1 d2 => exact .cons (Dp.reads I _ _ _ d1 a) (each_reads I b d2)
theorem cr_sortedA (hu : X.A.units + 64 < cLine) : CallR X (.builtin "sorted") (rSortedA X.K) := by
  intro pins s σ H vs us Q I r h
  obtain ⟨a, zs, rfl, hs, hd, hal, hk, hde, q⟩ := h
  obtain ⟨its, rv, hl, hz⟩ := I.list hs
  rw [Vals.ref1 r]
  rw [List.length_map] at hz
  refine PySem.W.sorted_data hl.isList (each_vals rv) (each_reads I rv hd) hal hk hz (fun b hb => ?_) fun out ho eo => ?_
  · have := hde b hb
    show X.A.units + 2 + b.2.depth < cLine
    omega
  · obtain ⟨ep, he'⟩ := PyProof.Rows.sortedAll_at s.heap its out.toArray
    have hv := vals_each eo
    have hlen : ((zs.mergeSort (dataLe false fun z => z.2)).map (·.1)).length ≤ sizeLine := by
      rw [List.length_map, List.length_mergeSort]
      exact hz
    exact ⟨.ref _, upd H (s.heap.objs.size + 1) (.lst ((zs.mergeSort (dataLe false fun z => z.2)).map (·.1))), I.laid (t' := s.toks) (fun _ _ => PyProof.Rows.sortedAll_old) (Nat.le_succ _) ⟨hlen, out, ep, hv, he'⟩, rfl, q _ (I.hok.fresh (Nat.le_succ _))⟩
end
/-! ### over deep data -/
def isTupC : PyData → Bool
  | .tuple (_ :: _) => true
  | _ => false
def noTup : PyData → Bool
  | .none => false
  | .tuple _ => false
  | _ => true
def srtOk (ps : List PyData) : Bool := ps.all (fun d => ps.all fun e => PySem.W.alike d e) && (ps.all isTupC || ps.all noTup) && ps.all fun d => decide (d.depth ≤ 60)
theorem srtOk_of {ps : List PyData} (h : srtOk ps = true) : AllAlike ps ∧ Sortable ps ∧ ∀ d ∈ ps, d.depth ≤ 60 := by
  unfold srtOk at h
  rw [Bool.and_eq_true, Bool.and_eq_true, Bool.or_eq_true] at h
  obtain ⟨⟨h1, h2⟩, h3⟩ := h
  refine ⟨fun d hd e he => ?_, ?_, fun d hd => ?_⟩
  · exact List.all_eq_true.mp (List.all_eq_true.mp h1 d hd) e he
  · rcases h2 with h2 | h2
    · refine .inl fun d hd => ?_
      have := List.all_eq_true.mp h2 d hd
      cases d with
      | tuple xs =>
        cases xs with
        | nil => simp [isTupC] at this
        | cons x r => exact ⟨x, r, rfl⟩
      | _ => simp [isTupC] at this
    · refine .inr fun d hd => ?_
      have := List.all_eq_true.mp h2 d hd
      cases d with
      | none => simp [noTup] at this
      | tuple xs => simp [noTup] at this
      | _ => exact ⟨fun z => by simp at z, fun _ z => by simp at z⟩
  · simpa using List.all_eq_true.mp h3 d hd
def sortedAD : D → Option Vw
  | .lst ds => (D.pys ds).bind fun ps => if srtOk ps = true then some (.fr (((ds.zip ps).mergeSort (dataLe false fun z => z.2)).map (·.1))) else none
  | _ => none
theorem pys_len : ∀ {ds : List D} {ps : List PyData}, D.pys ds = some ps → ds.length = ps.length
  | [], ps, h => by cases h; rfl
  | d :: ds, ps, h => by
    simp only [D.pys] at h
    split at h
    · rename_i q qs e1 e2
      cases h
      simp [pys_len e2]
    · cases h
theorem dq_zips {K : PySem.W.Frag} {B : Hp} : ∀ {vs : List V} {ds : List D} {ps : List PyData}, DqAll K B vs ds → ds.length = ps.length → ∀ t ∈ vs.zip (ds.zip ps), Dq K B t.1 t.2.1
  | _, [], _, h, _, t, ht => by simp at ht
  | _, d :: ds, [], h, l, t, ht => by simp at l
  | _, d :: ds, p :: ps, h, l, t, ht => by
    cases h with
    | cons a b =>
      rw [List.zip_cons_cons, List.zip_cons_cons] at ht
      rcases List.mem_cons.mp ht with rfl | ht
      · exact a
      · exact dq_zips b (by simpa using l) t ht
theorem dq_mapz {K : PySem.W.Frag} {B : Hp} : ∀ (ts : List (V × D × PyData)), (∀ t ∈ ts, Dq K B t.1 t.2.1) → DqAll K B (ts.map (·.1)) (ts.map (·.2.1))
  | [], _ => .nil
  | t :: ts, h => .cons (h t (.head _)) (dq_mapz ts fun u m => h u (.tail _ m))
theorem ro_sortedA {K : PySem.W.Frag} : RO1 K (fun v H Q => rSortedA K [v] H Q) sortedAD := by
  intro B H x d w e p q Q k
  cases d <;> simp only [sortedAD, reduceCtorEq] at q
  rename_i ds
  obtain ⟨a, vs, rfl, h1, h2⟩ := p.lst_inv
  cases hp : D.pys ds with
  | none => rw [hp] at q; cases q
  | some ps =>
    rw [hp] at q
    simp only [Option.bind_some] at q
    split at q
    · rename_i z
      cases q
      obtain ⟨z1, z2, z3⟩ := srtOk_of z
      have l1 := h2.length
      have l2 := pys_len hp
      have dpH := DqAll.dp (h2.mono e) hp
      have m1 : (vs.zip ps).map (·.1) = vs := List.map_fst_zip (by omega)
      have m2 : (vs.zip ps).map (·.2) = ps := List.map_snd_zip (by omega)
      refine ⟨a, vs.zip ps, rfl, by rw [m1]; exact SqL.of h1, by rw [m1, m2]; exact dpH, by rw [m2]; exact z1, by rw [m2]; exact z2, fun z hz => z3 z.2 (by
        have : z.2 ∈ (vs.zip ps).map (·.2) := List.mem_map.mpr ⟨z, hz, rfl⟩
        rwa [m2] at this), fun p' hn => ?_⟩
      have e1 : vs.zip ps = (vs.zip (ds.zip ps)).map fun t => (t.1, t.2.2) := by
        apply List.ext_getElem?
        intro i
        rw [List.getElem?_map]
        simp only [List.getElem?_zip_eq_some, List.zip_eq_zipWith, List.getElem?_zipWith]
        cases vs[i]? <;> cases hd : ds[i]? <;> cases hq : ps[i]? <;> simp
        all_goals (
          have a1 := List.getElem?_eq_none_iff.mp hd
          have a2 := (List.getElem?_eq_some_iff.mp hq).1
          omega)
      have e2 : ds.zip ps = (vs.zip (ds.zip ps)).map fun t => (t.2.1, t.2.2) := by
        have : (vs.zip (ds.zip ps)).map (·.2) = ds.zip ps := List.map_snd_zip (by rw [List.length_zip]; omega)
        conv => lhs; rw [← this]
      have f1 := List.map_mergeSort (r := fun t u : V × D × PyData => dataLe false (fun z : PyData => z) t.2.2 u.2.2) (s := dataLe false fun z : V × PyData => z.2) (f := fun t => (t.1, t.2.2)) (l := vs.zip (ds.zip ps)) (fun a _ b _ => rfl)
      have f2 := List.map_mergeSort (r := fun t u : V × D × PyData => dataLe false (fun z : PyData => z) t.2.2 u.2.2) (s := dataLe false fun z : D × PyData => z.2) (f := fun t => (t.2.1, t.2.2)) (l := vs.zip (ds.zip ps)) (fun a _ b _ => rfl)
      rw [← e1] at f1
      rw [← e2] at f2
      have dq := dq_mapz (K := K) (B := B) ((vs.zip (ds.zip ps)).mergeSort fun t u : V × D × PyData => dataLe false (fun z : PyData => z) t.2.2 u.2.2) (fun t ht => dq_zips h2 l2 t ((List.mergeSort_perm _ _).mem_iff.mp ht))
      have g1 : ((vs.zip ps).mergeSort (dataLe false fun z => z.2)).map (·.1) = ((vs.zip (ds.zip ps)).mergeSort fun t u : V × D × PyData => dataLe false (fun z : PyData => z) t.2.2 u.2.2).map (·.1) := by
        rw [← f1, List.map_map]; rfl
      have g2 : ((ds.zip ps).mergeSort (dataLe false fun z => z.2)).map (·.1) = ((vs.zip (ds.zip ps)).mergeSort fun t u : V × D × PyData => dataLe false (fun z : PyData => z) t.2.2 u.2.2).map (·.2.1) := by
        rw [← f2, List.map_map]; rfl
      rw [g1]
      rw [← g2] at dq
      exact k _ B _ (.list hn dq)
    · cases q
end Eng

/-! sorted of a tuple of ints -/
namespace Eng
open PySem PySem.Spec PyProof.Rows L2 Evl
variable [Tb]
section
variable {prog : Program} {w : World} {A : Around} {E : Value → Shared → Prop} {s : Shared} {l : Addr} {us : List Value}
/-- the heap once the items are in a list of their own -/
abbrev gath (h : Heap) (us : List Value) : Heap := (h.push (seqObj "list" #[] 0)).update h.objs.size (Obj.mapSeq (· ++ us.toArray))
theorem gather_tup {R : List Value → Shared → Prop} (ht : s.heap.IsTuple l us.toArray) (hn : us.length ≤ sizeLine) (hR : R us { s with heap := gath s.heap us }) : wpAny (model prog w) A (collect (.ref l)) R E s := by
  obtain ⟨ob, go, gc, m, gd⟩ := id ht
  unfold collect
  refine wpAny_bind (wpAny_runValue (codeAny_builtin entry_proto_collect' ?_))
  show wpAny _ _ (do again (.builtin "list.__iadd__" ⟨[← newList [], .ref l], []⟩)) _ _ s
  refine wpAny_bind (wpAny_newList (wpAny_pure ⟨Code.quiet_builtin _ (by decide +kernel), codeAny_builtin entry_list_iadd' ?_⟩))
  show wpAny _ _ (Builtin.List.listExtendWith (.ref s.heap.objs.size) (.ref l) (.ref s.heap.objs.size)) _ _ { s with heap := s.heap.push (seqObj "list" #[] 0) }
  unfold Builtin.List.listExtendWith
  have go2 := Heap.get?_push_of_some (seqObj "list" #[] 0) go
  have self := Heap.get?_push_size s.heap (o := seqObj "list" #[] 0) rfl
  refine wpAny_bind (wpAny_typeOf (T := "tuple") ⟨ob, go2, gc⟩ ?_)
  have k : (Value.type "tuple" == Value.type "tuple") = true := by rfl
  rw [if_pos (by rw [k]; simp)]
  refine wpAny_bind (listItems_at go2 gd ?_)
  refine wpAny_bind (listItems_at (xs := #[]) (n := 0) self rfl ?_)
  rw [if_neg (by simp)]
  have hz : ((#[] : Array Value) ++ us.toArray).size ≤ sizeLine + 1 := by
    rw [Array.size_append, List.size_toArray]
    show 0 + us.length ≤ sizeLine + 1
    omega
  refine wpAny_bind (listUpdate_at (xs := #[]) (n := 0) self rfl ?_ (Nat.zero_le _) hz)
  refine wpAny_pure ?_
  have fin : ((#[] : Array Value) ++ us.toArray).toList = us := by simp
  show wpAny (model prog w) A (do
      let o ← load s.heap.objs.size
      match o.data with
      | .seq xs _ => pure xs.toList
      | _ => unsupported "internal:collect") R E { s with heap := gath s.heap us }
  refine wpAny_bind (wpAny_load (get?_update_seq self _) ?_)
  show wpAny _ _ (pure ((#[] : Array Value) ++ us.toArray).toList) R E _
  rw [fin]
  exact wpAny_pure hR
theorem sorted_tup {ltv : Value → Value → Bool} {R : Value → Shared → Prop} (O : SrtO.Swo ltv) (ht : s.heap.IsTuple l us.toArray) (hn : us.length ≤ sizeLine)
    (hS : 2 ≤ us.length → ∀ (g : Heap) (a : Addr), g.get? a = some (seqObj "list" us.toArray 0) → SrtO.SortableO prog w A.in1.in1 { s with heap := g } a us ltv)
    (hR : ∀ out : List Value, SrtO.Srtd ltv out → SrtO.Stb ltv out us → R (.ref (s.heap.objs.size + 1)) { s with heap := sortedAll s.heap us out.toArray }) :
    wpAny (model prog w) A (call (.builtin "sorted") [.ref l]) R E s := by
  refine Calls.call_function_entry kind_sorted plain_sorted entry_sorted (args_sorted1 _) ?_
  unfold Builtin.«sorted»
  refine wpAny_bind (m := checkCount "sorted" 1 1 _) (wpAny_pure ?_)
  refine wpAny_bind (gather_tup ht hn ?_)
  refine wpAny_bind (wpAny_newList ?_ hn)
  have size : (gath s.heap us).objs.size = s.heap.objs.size + 1 := by rw [Heap.size_update, size_push']
  have new : ((gath s.heap us).push (seqObj "list" us.toArray 0)).get? (s.heap.objs.size + 1) = some (seqObj "list" us.toArray 0) := by
    rw [← size]
    exact Heap.get?_push_size _ rfl
  show wpAny _ _ _ _ _ { s with heap := (gath s.heap us).push (seqObj "list" us.toArray 0) }
  rw [size]
  have srt := SrtO.list_sort_ord (prog := prog) (w := w) (A := A.in1.in1) (s := { s with heap := (gath s.heap us).push (seqObj "list" us.toArray 0) }) (R := fun f s' => ∃ v, f = PySem.Fin.done (.ret v) ∧ R (.ref (s.heap.objs.size + 1)) s') (E := fun _ _ => False) O new hn (fun h2 => hS h2 _ _ new) fun out h1 h2 => ⟨_, rfl, hR out h1 h2⟩
  refine wpAny_bind (wpAny_holding (wpAny_call_entry slot_list_sort ⟨_, new, rfl⟩ entry_list_sort (wpAny_mono srt (fun f s' hf => ?_) fun _ _ e => e.elim) (args_list_sort _)))
  obtain ⟨v, rfl, hq⟩ := hf
  exact ⟨v, rfl, wpAny_pure ⟨_, rfl, hq⟩⟩
end
section
variable {X : Cx}
def rSortedTI (K : PySem.W.Frag) : List V → Hp → VK → Prop := fun vs H Q => ∃ (a : Addr) (ns : List Int), vs = [V.ref a] ∧ SqT K H a (ns.map V.int) ∧
  ∀ (ms : List Int) (p : Addr), ms.Perm ns → ms.Pairwise (· ≤ ·) → H p = none → Q (.ref p) (upd H p (.lst (ms.map V.int)))
theorem cr_sortedTI : CallR X (.builtin "sorted") (rSortedTI X.K) := by
  intro pins s σ H vs us Q I r h
  obtain ⟨a, ns, rfl, hs, q⟩ := h
  obtain ⟨its, rv, ht, hz⟩ := I.tuple hs
  rw [Vals.ref1 r]
  have hi := rv.ints
  have hz2 : its.length ≤ sizeLine := by rw [← rv.length]; exact hz
  refine sorted_tup SrtO.swo_int ht hz2 (fun h2 g b _ => SrtO.ints_sortable hi h2) fun out h1 h2 => ?_
  obtain ⟨k1, k2, k3⟩ := SrtO.ints_out hi h1 h2
  obtain ⟨ep, he⟩ := PyProof.Rows.sortedAll_at s.heap its out.toArray
  rw [List.length_map] at hz
  have hlen : ((out.map SrtO.iv).map V.int).length ≤ sizeLine := by rw [List.length_map, k2.length_eq]; exact hz
  refine ⟨.ref _, upd H (s.heap.objs.size + 1) (.lst ((out.map SrtO.iv).map V.int)), ?_, rfl, q _ _ k2 k3 (I.hok.fresh (Nat.le_succ _))⟩
  exact I.laid (t' := s.toks) (fun _ _ => PyProof.Rows.sortedAll_old) (Nat.le_succ _) ⟨hlen, out, ep, vals_of_ints k1, he⟩
end
def sortedTD : D → Option Vw
  | .tup ds => (intsOf ds).map fun ns => .fr ((sortI ns).map .int)
  | _ => none
theorem ro_sortedTI {K : PySem.W.Frag} : RO1 K (fun v H Q => rSortedTI K [v] H Q) sortedTD := by
  intro B H x d w e p q Q k
  cases d <;> simp only [sortedTD, reduceCtorEq, Option.map_eq_some_iff] at q
  obtain ⟨ns, h, rfl⟩ := q
  obtain ⟨a, vs, rfl, h1, h3, h2⟩ := p.tup_inv e
  rw [intsOf_eq h] at h2
  have z := ints_dq h2
  subst z
  refine ⟨a, ns, rfl, h1, fun ms p' hp hs n => ?_⟩
  have ez : ms = sortI ns := sorted_uniq (hp.trans (sortI_perm ns).symm) hs (sortI_sorted ns)
  subst ez
  exact k _ B _ (.list n (dq_ints _))
/-- a list of ints, a tuple of ints, a list of alike data -/
def rSortedU (K : PySem.W.Frag) : List V → Hp → VK → Prop := fun vs H Q => rSortedI K vs H Q ∨ (rSortedTI K vs H Q ∨ rSortedA K vs H Q)
def sortedUD (d : D) : Option Vw := match sortedD d with
  | some w => some w
  | none => match sortedTD d with
    | some w => some w
    | none => sortedAD d
theorem ro_sortedU {K : PySem.W.Frag} : RO1 K (fun v H Q => rSortedU K [v] H Q) sortedUD := by
  intro B H x d w e p q Q k
  unfold sortedUD at q
  split at q
  · rename_i w' h
    cases q
    exact .inl (ro_sorted B H x d _ e p h Q k)
  · split at q
    · rename_i w' h
      cases q
      exact .inr (.inl (ro_sortedTI B H x d _ e p h Q k))
    · exact .inr (.inr (ro_sortedA B H x d _ e p q Q k))
theorem je_sortedU {X : Cx} {c : Cc} {E : XS} {pos p : Pos} {a : Expr} {sa : SE} (hu : X.A.units + 64 < cLine) (hm : X.mg "sorted" = none) (ha : JE X c E a sa) (hg : Gl X "sorted" := by rfl) (hs : starEach [a] X.env = (false, eval a X.env) :: starEach [] X.env := by rfl) (hpl : (backTo pos (starEach [] X.env)).any (·.1) = false := by rfl) : JE X c E (.Call (.Name "sorted" p) [a] [] pos) (sOp1 sortedUD sa) :=
  je_b1 (CallR.or cr_sortedI (CallR.or cr_sortedTI (cr_sortedA hu))) ro_sortedU hm bt_sorted ha hg (by decide) (by decide) hs hpl
end Eng

/-! readings of the defs, by genlib.py -/
namespace Eng
namespace Pg
open PySem PySem.Spec PyProof.Rows L2 Evl
def ss_l_many : SS := sRet (sCallC 0 f_l_of (sCons (sLst (sCons (sC (.int 1)) (sCons (sC (.int 2)) (sCons (sC (.int 3)) (sCons (sC (.int 4)) (sCons (sC (.int 4)) (sCons (sC (.int 5)) (sCons (sC (.int 5)) (sCons (sC (.int 6)) (sCons (sC (.int 6)) (sCons (sC (.int 9)) (sCons (sC (.int 24)) (sNil))))))))))))) (sNil)))
def f_l_many : FD := defC 1 0 ss_l_many
def ss_l_spin : SS := sSeq (sPar 3 4 (sLRg1 (sVar 1)) (sLst (sNil))) (sSeq (sFor (siRange1 (sCons (sVar 1) (sNil))) (sgName 2) (sDrop (sMut 4 fApp (sCons (sMut 3 fPopAt (sCons (sCallC 0 f_l_sip (sCons (sOp1 lenD (sVar 3)) (sNil))) (sNil))) (sNil))))) (sRet (sOp1 tupleD (sVar 4))))
def f_l_spin : FD := defC 5 1 ss_l_spin
def ss_l_still : SS := sRet (sOp1 tupleD (sLRg1 (sVar 0)))
def f_l_still : FD := defP 1 1 ss_l_still
def ss_is_integer : SS := sRet (sV (sAnd (sB (sOp1 (isiD "int") (sVar 0))) (sB (sV (sAnd (sB (sV (sNot (sB (sOp1 (isiD "bool") (sVar 0)))))) (sB (sCh leD leD (sVar 1) (sVar 0) (sVar 2))))))))
def f_is_integer : FD := defP 3 3 ss_is_integer
def ss_are_unlike_places : SS := sUnlG 2 3 (siSeq (sVar 0)) (sB (sCall f_is_integer (sCons (sVar 3) (sCons (sC (.int 0)) (sCons (sOp2 subD (sVar 1) (sC (.int 1))) (sNil))))))
def f_are_unlike_places : FD := defP 4 2 ss_are_unlike_places
def ss_is_turn : SS := sSeq (sIfS (sOr (sNot (sB (sOp1 (isiD "tuple") (sVar 0)))) (sNot (sB (sCh leD leD (sC (.int 1)) (sOp1 lenD (sVar 0)) (sC (.int 24)))))) (sRet (sC (.bl false))) (sNext)) (sRet (sCall f_are_unlike_places (sCons (sVar 0) (sCons (sOp1 lenD (sVar 0)) (sNil)))))
def f_is_turn : FD := defP 1 1 ss_is_turn
def ss_check_turn : SS := sIfS (sNot (sB (sCall f_is_turn (sCons (sVar 0) (sNil))))) (sNever) (sNext)
def f_check_turn : FD := defP 1 1 ss_check_turn
def ss_check_two_turns : SS := sSeq (sDrop (sCall f_check_turn (sCons (sVar 0) (sNil)))) (sSeq (sDrop (sCall f_check_turn (sCons (sVar 1) (sNil)))) (sIfS (sB (sOp2 neD (sOp1 lenD (sVar 0)) (sOp1 lenD (sVar 1)))) (sNever) (sNext)))
def f_check_two_turns : FD := defP 2 2 ss_check_two_turns
def ss_one_then : SS := sRet (sOp1 tupleD (sLc (siSeq (sVar 0)) (sgName 2) (sYes) (sOp2 ixD (sVar 1) (sVar 2)) [2]))
def f_one_then : FD := defP 3 2 ss_one_then
def ss_then : SS := sSeq (sDrop (sCall f_check_two_turns (sCons (sVar 0) (sCons (sVar 1) (sNil))))) (sRet (sCall f_one_then (sCons (sVar 0) (sCons (sVar 1) (sNil)))))
def f_then : FD := defP 2 2 ss_then
def ss_led_back : SS := sSeq (sAsg 1 (sOp2 mulD (sLst (sCons (sC (.int 0)) (sNil))) (sOp1 lenD (sVar 0)))) (sSeq (sFor (siEnum (sVar 0)) (sgTwo 2 3) (sSetIx 1 (sVar 2) (sVar 3))) (sRet (sOp1 tupleD (sVar 1))))
def f_led_back : FD := defP 4 1 ss_led_back
def ss_renamed_by : SS := sRet (sCall f_one_then (sCons (sCall f_one_then (sCons (sCall f_led_back (sCons (sVar 0) (sNil))) (sCons (sVar 1) (sNil)))) (sCons (sVar 0) (sNil))))
def f_renamed_by : FD := defP 2 2 ss_renamed_by
def ss_turned_by : SS := sSeq (sDrop (sCall f_check_two_turns (sCons (sVar 0) (sCons (sVar 1) (sNil))))) (sRet (sCall f_renamed_by (sCons (sVar 0) (sCons (sVar 1) (sNil)))))
def f_turned_by : FD := defP 2 2 ss_turned_by
def ss_rings_in : SS := sSeq (sAsg 1 (sOp2 mulD (sLst (sCons (sC (.bl false)) (sNil))) (sOp1 lenD (sVar 0)))) (sSeq (sAsg 2 (sLst (sNil))) (sSeq (sFor (siRange1 (sCons (sOp1 lenD (sVar 0)) (sNil))) (sgName 3) (sSeq (sAsg 4 (sLst (sNil))) (sSeq (sAsg 5 (sVar 3)) (sSeq (whileL (sNot (sB (sOp2 ixD (sVar 1) (sVar 5)))) (sSeq (sSetIx 1 (sC (.bl true)) (sVar 5)) (sSeq (sDrop (sMut 4 fApp (sCons (sVar 5) (sNil)))) (sAsg 5 (sOp2 ixD (sVar 0) (sVar 5))))) 100000) (sIfS (sB (sOp2 gtD (sOp1 lenD (sVar 4)) (sC (.int 0)))) (sDrop (sMut 2 fApp (sCons (sOp1 tupleD (sVar 4)) (sNil)))) (sNext)))))) (sRet (sOp1 tupleD (sVar 2)))))
def f_rings_in : FD := defP 6 1 ss_rings_in
def ss_kind_in : SS := sRet (sOp1 tupleD (sOp1 sortedRD (sLc (siSeq (sCall f_rings_in (sCons (sVar 0) (sNil)))) (sgName 1) (sYes) (sOp1 lenD (sVar 1)) [1])))
def f_kind_in : FD := defP 2 1 ss_kind_in
def ss_kind_of : SS := sSeq (sDrop (sCall f_check_turn (sCons (sVar 0) (sNil)))) (sRet (sCall f_kind_in (sCons (sVar 0) (sNil))))
def f_kind_of : FD := defP 1 1 ss_kind_of
def ss_is_even_turn : SS := sRet (sOp2 eqD (sOp2 modD (sOp2 subD (sOp1 lenD (sVar 0)) (sOp1 lenD (sCall f_rings_in (sCons (sVar 0) (sNil))))) (sC (.int 2))) (sC (.int 0)))
def f_is_even_turn : FD := defP 1 1 ss_is_even_turn
def ss_is_even : SS := sSeq (sDrop (sCall f_check_turn (sCons (sVar 0) (sNil)))) (sRet (sCall f_is_even_turn (sCons (sVar 0) (sNil))))
def f_is_even : FD := defP 1 1 ss_is_even
def ss_back : SS := sSeq (sDrop (sCall f_check_turn (sCons (sVar 0) (sNil)))) (sRet (sCall f_led_back (sCons (sVar 0) (sNil))))
def f_back : FD := defP 1 1 ss_back
def ss_goes_with : SS := sRet (sOp1 allD (sLc (siSeq (sVar 1)) (sgName 2) (sYes) (sOp2 eqD (sCall f_one_then (sCons (sVar 0) (sCons (sVar 2) (sNil)))) (sCall f_one_then (sCons (sVar 2) (sCons (sVar 0) (sNil))))) [2]))
def f_goes_with : FD := defP 3 2 ss_goes_with
def ss_commutes : SS := sSeq (sDrop (sCall f_check_two_turns (sCons (sVar 0) (sCons (sVar 1) (sNil))))) (sRet (sCall f_goes_with (sCons (sVar 0) (sCons (sLst (sCons (sVar 1) (sNil))) (sNil)))))
def f_commutes : FD := defP 2 2 ss_commutes
def ss_rings : SS := sSeq (sDrop (sCall f_check_turn (sCons (sVar 0) (sNil)))) (sRet (sCall f_rings_in (sCons (sVar 0) (sNil))))
def f_rings : FD := defP 1 1 ss_rings
def ss_l_pairs_right_k02 : SS := sSeq (sAsg 3 (sCall f_then (sCons (sVar 0) (sCons (sVar 1) (sNil))))) (sSeq (sIfS (sOr (sB (sOp2 neD (sVar 3) (sCall f_one_then (sCons (sVar 0) (sCons (sVar 1) (sNil)))))) (sB (sOp2 neD (sCallK true f_then (sCons (sVar 1) (sCons (sVar 0) (sNil)))) (sVar 3)))) (sRet (sC (.bl false))) (sNext)) (sSeq (sIfS (sOr (sB (sOp2 neD (sCall f_kind_of (sCons (sVar 3) (sNil))) (sCall f_kind_of (sCons (sCall f_then (sCons (sVar 1) (sCons (sVar 0) (sNil)))) (sNil))))) (sB (sOp2 neD (sCall f_is_even (sCons (sVar 3) (sNil))) (sOp2 eqD (sCall f_is_even (sCons (sVar 0) (sNil))) (sCall f_is_even (sCons (sVar 1) (sNil))))))) (sRet (sC (.bl false))) (sNext)) (sSeq (sIfS (sOr (sB (sOp2 neD (sCall f_then (sCons (sVar 3) (sCons (sVar 2) (sNil)))) (sCall f_then (sCons (sVar 0) (sCons (sCall f_then (sCons (sVar 1) (sCons (sVar 2) (sNil)))) (sNil)))))) (sB (sOp2 neD (sCall f_back (sCons (sVar 3) (sNil))) (sCall f_then (sCons (sCall f_back (sCons (sVar 1) (sNil))) (sCons (sCall f_back (sCons (sVar 0) (sNil))) (sNil))))))) (sRet (sC (.bl false))) (sNext)) (sSeq (sAsg 4 (sCall f_turned_by (sCons (sVar 0) (sCons (sVar 1) (sNil))))) (sSeq (sFor (siRange1 (sCons (sOp1 lenD (sVar 0)) (sNil))) (sgName 5) (sIfS (sB (sOp2 neD (sOp2 ixD (sVar 4) (sOp2 ixD (sVar 0) (sVar 5))) (sOp2 ixD (sVar 0) (sOp2 ixD (sVar 1) (sVar 5))))) (sRet (sC (.bl false))) (sNext))) (sSeq (sIfS (sOr (sB (sOp2 neD (sCallK true f_turned_by (sCons (sVar 1) (sCons (sVar 0) (sNil)))) (sVar 4))) (sB (sOp2 neD (sCall f_kind_of (sCons (sVar 4) (sNil))) (sCall f_kind_of (sCons (sVar 1) (sNil)))))) (sRet (sC (.bl false))) (sNext)) (sSeq (sAsg 6 (sOp1 sortedUD (sLc (siSeq (sCall f_rings (sCons (sVar 1) (sNil)))) (sgName 8) (sYes) (sOp1 sortedUD (sLc (siSeq (sVar 8)) (sgName 5) (sYes) (sOp2 ixD (sVar 0) (sVar 5)) [5])) [8]))) (sSeq (sIfS (sB (sOp2 neD (sOp1 sortedUD (sLc (siSeq (sCall f_rings (sCons (sVar 4) (sNil)))) (sgName 8) (sYes) (sOp1 sortedUD (sVar 8)) [8])) (sVar 6))) (sRet (sC (.bl false))) (sNext)) (sSeq (sAsg 7 (sOp2 eqD (sCall f_one_then (sCons (sVar 0) (sCons (sVar 1) (sNil)))) (sCall f_one_then (sCons (sVar 1) (sCons (sVar 0) (sNil)))))) (sSeq (sIfS (sB (sOp2 neD (sOp1 reprD (sLst (sCons (sCall f_commutes (sCons (sVar 0) (sCons (sVar 1) (sNil)))) (sCons (sCallK true f_commutes (sCons (sVar 0) (sCons (sVar 1) (sNil)))) (sNil))))) (sOp1 reprD (sOp2 mulD (sLst (sCons (sVar 7) (sNil))) (sC (.int 2)))))) (sRet (sC (.bl false))) (sNext)) (sSeq (sIfS (sOr (sB (sOp2 neD (sCall f_commutes (sCons (sCall f_turned_by (sCons (sVar 2) (sCons (sVar 0) (sNil)))) (sCons (sCall f_turned_by (sCons (sVar 2) (sCons (sVar 1) (sNil)))) (sNil)))) (sVar 7))) (sB (sOp2 neD (sOp2 eqD (sVar 4) (sVar 1)) (sVar 7)))) (sRet (sC (.bl false))) (sNext)) (sRet (sOp2 eqD (sCall f_turned_by (sCons (sVar 0) (sCons (sCall f_turned_by (sCons (sVar 2) (sCons (sVar 1) (sNil)))) (sNil)))) (sCall f_turned_by (sCons (sCall f_then (sCons (sVar 2) (sCons (sVar 0) (sNil)))) (sCons (sVar 1) (sNil)))))))))))))))))
def f_l_pairs_right_k02 : FD := defP 9 3 ss_l_pairs_right_k02
def ss_moved : SS := sSeq (sDrop (sCall f_check_turn (sCons (sVar 0) (sNil)))) (sRet (sOp1 tupleD (sLc (siEnum (sVar 0)) (sgTwo 1 2) (sB (sOp2 neD (sVar 1) (sVar 2))) (sVar 1) [1, 2])))
def f_moved : FD := defP 3 1 ss_moved
def ss_l_loops : SS := sSeq (sPar 2 3 (sLst (sNil)) (sLst (sNil))) (sSeq (sFor (siRange1 (sCons (sOp1 lenD (sVar 0)) (sNil))) (sgName 1) (sSeq (sPar 4 5 (sLst (sNil)) (sVar 1)) (sSeq (whileL (sB (sOp2 notInD (sVar 5) (sVar 3))) (sSeq (sDrop (sMut 3 fApp (sCons (sVar 5) (sNil)))) (sSeq (sDrop (sMut 4 fApp (sCons (sVar 5) (sNil)))) (sAsg 5 (sOp2 ixD (sVar 0) (sVar 5))))) 100000) (sIfS (sB (sOp2 neD (sVar 4) (sLst (sNil)))) (sDrop (sMut 2 fApp (sCons (sOp1 tupleD (sVar 4)) (sNil)))) (sNext))))) (sRet (sOp1 tupleD (sVar 2))))
def f_l_loops : FD := defP 6 1 ss_l_loops
def ss_l_lens : SS := sRet (sOp1 tupleD (sOp1 revD (sOp1 sortedUD (sLc (siSeq (sCall f_l_loops (sCons (sVar 0) (sNil)))) (sgName 1) (sYes) (sOp1 lenD (sVar 1)) [1]))))
def f_l_lens : FD := defP 2 1 ss_l_lens
def ss_check_number : SS := sIfS (sNot (sB (sCall f_is_integer (sCons (sVar 0) (sCons (sVar 1) (sCons (sVar 2) (sNil))))))) (sNever) (sNext)
def f_check_number : FD := defP 3 3 ss_check_number
def ss_along : SS := sSeq (sAsg 3 (sLRg1 (sVar 0))) (sSeq (sFor (siSeq (sVar 1)) (sgName 4) (sFor (siEnum (sVar 4)) (sgTwo 5 6) (sSetIx 3 (sOp2 ixD (sVar 4) (sOp2 modD (sOp2 addD (sVar 5) (sVar 2)) (sOp1 lenD (sVar 4)))) (sVar 6)))) (sRet (sOp1 tupleD (sVar 3))))
def f_along : FD := defP 7 3 ss_along
def ss_are_rings : SS := sSeq (sIfS (sNot (sB (sOp1 (isiD "tuple") (sVar 0)))) (sRet (sC (.bl false))) (sNext)) (sSeq (sAsg 2 (sLst (sNil))) (sSeq (sFor (siSeq (sVar 0)) (sgName 3) (sSeq (sIfS (sOr (sNot (sB (sOp1 (isiD "tuple") (sVar 3)))) (sB (sOp2 eqD (sOp1 lenD (sVar 3)) (sC (.int 0))))) (sRet (sC (.bl false))) (sNext)) (sDrop (sMut 2 fExtT (sCons (sVar 3) (sNil)))))) (sRet (sCall f_are_unlike_places (sCons (sVar 2) (sCons (sVar 1) (sNil)))))))
def f_are_rings : FD := defP 4 2 ss_are_rings
def ss_turn_of : SS := sSeq (sDrop (sCall f_check_number (sCons (sVar 0) (sCons (sC (.int 1)) (sCons (sC (.int 24)) (sNil)))))) (sSeq (sIfS (sNot (sB (sCall f_are_rings (sCons (sVar 1) (sCons (sVar 0) (sNil)))))) (sNever) (sNext)) (sRet (sCall f_along (sCons (sVar 0) (sCons (sVar 1) (sCons (sC (.int 1)) (sNil)))))))
def f_turn_of : FD := defP 2 2 ss_turn_of
def ss_is_kind : SS := sSeq (sIfS (sOr (sNot (sB (sOp1 (isiD "tuple") (sVar 0)))) (sNot (sB (sCh leD leD (sC (.int 1)) (sOp1 lenD (sVar 0)) (sC (.int 24)))))) (sRet (sC (.bl false))) (sNext)) (sSeq (sAsg 1 (sC (.int 24))) (sSeq (sFor (siSeq (sVar 0)) (sgName 2) (sSeq (sIfS (sNot (sB (sCall f_is_integer (sCons (sVar 2) (sCons (sC (.int 1)) (sCons (sVar 1) (sNil))))))) (sRet (sC (.bl false))) (sNext)) (sAsg 1 (sVar 2)))) (sRet (sOp2 leD (sOp1 sumTD (sVar 0)) (sC (.int 24))))))
def f_is_kind : FD := defP 3 1 ss_is_kind
def ss_check_kind : SS := sIfS (sNot (sB (sCall f_is_kind (sCons (sVar 0) (sNil))))) (sNever) (sNext)
def f_check_kind : FD := defP 1 1 ss_check_kind
def ss_how_many_turns : SS := sSeq (sDrop (sCall f_check_kind (sCons (sVar 0) (sNil)))) (sSeq (sAsg 1 (sC (.int 1))) (sSeq (sAsg 2 (sC (.int 0))) (sSeq (sFor (siEnum (sVar 0)) (sgTwo 3 4) (sSeq (sAsg 2 (sIf (sAnd (sB (sOp2 gtD (sVar 3) (sC (.int 0)))) (sB (sOp2 eqD (sOp2 ixD (sVar 0) (sOp2 subD (sVar 3) (sC (.int 1)))) (sVar 4)))) (sOp2 addD (sVar 2) (sC (.int 1))) (sC (.int 1)))) (sAsg 1 (sOp2 mulD (sOp2 mulD (sVar 1) (sVar 4)) (sVar 2))))) (sRet (sOp2 fdivD (sOp1 factD (sOp1 sumTD (sVar 0))) (sVar 1))))))
def f_how_many_turns : FD := defP 5 1 ss_how_many_turns
def ss_l_crossed : SS := sSeq (sAsg 1 (sC (.int 0))) (sSeq (sFor (siRange1 (sCons (sOp1 lenD (sVar 0)) (sNil))) (sgName 2) (sAsg 1 (sOp2 addD (sVar 1) (sOp1 lenD (sLc (siSeq (sSl (sVar 0) (sPart (sOp2 addD (sVar 2) (sC (.int 1)))) (sNoP))) (sgName 3) (sB (sOp2 ltD (sVar 3) (sOp2 ixD (sVar 0) (sVar 2)))) (sVar 3) [3]))))) (sRet (sVar 1)))
def f_l_crossed : FD := defP 4 1 ss_l_crossed
def ss_l_single_right_k02 : SS := sSeq (sAsg 2 (sCall f_l_loops (sCons (sVar 1) (sNil)))) (sSeq (sAsg 3 (sLst (sCons (sCall f_rings (sCons (sVar 1) (sNil))) (sCons (sCall f_kind_of (sCons (sVar 1) (sNil))) (sCons (sCall f_is_even (sCons (sVar 1) (sNil))) (sCons (sCall f_moved (sCons (sVar 1) (sNil))) (sNil))))))) (sSeq (sAsg 4 (sOp2 eqD (sOp2 modD (sOp1 intD (sCall f_l_crossed (sCons (sVar 1) (sNil)))) (sC (.int 2))) (sC (.int 0)))) (sSeq (sAsg 5 (sLst (sCons (sVar 2) (sCons (sCall f_l_lens (sCons (sVar 1) (sNil))) (sCons (sVar 4) (sCons (sOp1 tupleD (sLc (siRange1 (sCons (sOp1 lenD (sVar 1)) (sNil))) (sgName 9) (sB (sOp2 neD (sOp2 ixD (sVar 1) (sVar 9)) (sVar 9))) (sVar 9) [9])) (sNil))))))) (sSeq (sIfS (sOr (sB (sOp2 neD (sOp1 reprD (sVar 3)) (sOp1 reprD (sVar 5)))) (sB (sOp2 neD (sOp1 reprD (sLst (sCons (sCallK false f_rings (sCons (sVar 1) (sNil))) (sCons (sCallK false f_kind_of (sCons (sVar 1) (sNil))) (sNil))))) (sOp1 reprD (sSl (sVar 5) (sNoP) (sPart (sC (.int 2)))))))) (sRet (sC (.bl false))) (sNext)) (sSeq (sAsg 6 (sLst (sNil))) (sSeq (sFor (siSeq (sVar 2)) (sgName 7) (sSeq (sAsg 9 (sCallC 0 f_l_sip (sCons (sOp1 lenD (sVar 7)) (sNil)))) (sIfS (sOr (sB (sOp2 gtD (sOp1 lenD (sVar 7)) (sC (.int 1)))) (sB (sOp2 eqD (sCallC 0 f_l_sip (sCons (sC (.int 2)) (sNil))) (sC (.int 0))))) (sDrop (sMut 6 fIns2 (sCons (sCallC 0 f_l_sip (sCons (sOp2 addD (sOp1 lenD (sVar 6)) (sC (.int 1))) (sNil))) (sCons (sOp2 addD (sSl (sVar 7) (sPart (sVar 9)) (sNoP)) (sSl (sVar 7) (sNoP) (sPart (sVar 9)))) (sNil))))) (sNext)))) (sSeq (sIfS (sOr (sB (sOp2 neD (sCall f_turn_of (sCons (sOp1 lenD (sVar 1)) (sCons (sOp1 tupleD (sVar 6)) (sNil)))) (sVar 1))) (sB (sOp2 neD (sCallK true f_turn_of (sCons (sOp1 tupleD (sVar 6)) (sCons (sOp1 lenD (sVar 1)) (sNil)))) (sVar 1)))) (sRet (sC (.bl false))) (sNext)) (sSeq (sAsg 8 (sCall f_back (sCons (sVar 1) (sNil)))) (sSeq (sIfS (sOr (sB (sOp2 neD (sCall f_one_then (sCons (sVar 1) (sCons (sVar 8) (sNil)))) (sCall f_l_still (sCons (sOp1 lenD (sVar 1)) (sNil))))) (sB (sOp2 neD (sCallK false f_back (sCons (sVar 8) (sNil))) (sVar 1)))) (sRet (sC (.bl false))) (sNext)) (sRet (sV (sAnd (sB (sOp2 eqD (sCall f_kind_of (sCons (sVar 8) (sNil))) (sOp2 ixD (sVar 5) (sC (.int 1))))) (sB (sV (sAnd (sB (sOp2 eqD (sCall f_rings (sCons (sVar 8) (sNil))) (sCall f_l_loops (sCons (sVar 8) (sNil))))) (sB (sOp2 gtD (sCall f_how_many_turns (sCons (sOp2 ixD (sVar 5) (sC (.int 1))) (sNil))) (sC (.int 0)))))))))))))))))))
def f_l_single_right_k02 : FD := defC 10 1 ss_l_single_right_k02
def ss_l_right_k02 : SS := sSeq (sAsg 1 (sCallC 0 f_l_many (sNil))) (sSeq (sAsg 2 (sLc (siRange1 (sCons (sC (.int 3)) (sNil))) (sgName 6) (sYes) (sCallC 0 f_l_spin (sCons (sVar 1) (sNil))) [6])) (sSeq (sIfS (sNot (sB (sOp1 allD (sLc (siSeq (sVar 2)) (sgName 3) (sYes) (sCallC 0 f_l_single_right_k02 (sCons (sVar 3) (sNil))) [3])))) (sRet (sC (.bl false))) (sNext)) (sSeq (sIfS (sOr (sNot (sB (sCall f_l_pairs_right_k02 (sCons (sOp2 ixD (sVar 2) (sC (.int 0))) (sCons (sOp2 ixD (sVar 2) (sC (.int 1))) (sCons (sOp2 ixD (sVar 2) (sC (.int 2))) (sNil))))))) (sNot (sB (sCall f_l_pairs_right_k02 (sCons (sOp2 ixD (sVar 2) (sC (.int 1))) (sCons (sCall f_back (sCons (sOp2 ixD (sVar 2) (sC (.int 1))) (sNil))) (sCons (sOp2 ixD (sVar 2) (sC (.int 2))) (sNil)))))))) (sRet (sC (.bl false))) (sNext)) (sSeq (sPar 4 5 (sCall f_l_still (sCons (sVar 1) (sNil))) (sLc (siRange1 (sCons (sCallC 0 f_l_sip (sCons (sC (.int 9)) (sNil))) (sNil))) (sgName 6) (sYes) (sCallC 0 f_l_of (sCons (sVar 2) (sNil))) [6])) (sSeq (sFor (siSeq (sVar 5)) (sgName 3) (sAsg 4 (sCall f_then (sCons (sVar 4) (sCons (sVar 3) (sNil)))))) (sSeq (sFor (siSeq (sOp1 revD (sVar 5))) (sgName 3) (sAsg 4 (sCall f_then (sCons (sVar 4) (sCons (sCall f_back (sCons (sVar 3) (sNil))) (sNil)))))) (sRet (sV (sAnd (sB (sOp2 eqD (sVar 4) (sCall f_l_still (sCons (sVar 1) (sNil))))) (sB (sV (sAnd (sB (sOp2 eqD (sCall f_moved (sCons (sVar 4) (sNil))) (sTup (sNil)))) (sB (sOp2 eqD (sCall f_kind_of (sCons (sVar 4) (sNil))) (sOp2 mulD (sTup (sCons (sC (.int 1)) (sNil))) (sVar 1))))))))))))))))
def f_l_right_k02 : FD := defC 7 0 ss_l_right_k02
def ss_l_amount : SS := sSeq (sAsg 1 (sLst (sCons (sC (.int 0)) (sCons (sC (.int 1)) (sCons (sC (.int 2)) (sCons (sC (.int 3)) (sCons (sC (.int 5)) (sCons (sC (.int 6)) (sCons (sC (.int 12)) (sCons (sC (.int 60)) (sCons (sOp2 powD (sC (.int 10)) (sC (.int 12))) (sCons (sOp2 powD (sC (.int 10)) (sC (.int 30))) (sCons (sOp2 subD (sOp2 subD (sOp2 powD (sC (.int 10)) (sC (.int 30))) (sC (.int 1))) (sCallC 0 f_l_sip (sCons (sOp2 powD (sC (.int 10)) (sC (.int 9))) (sNil)))) (sNil)))))))))))))) (sRet (sOp2 mulD (sCallC 0 f_l_of (sCons (sVar 1) (sNil))) (sIf (sB (sOp2 eqD (sCallC 0 f_l_sip (sCons (sC (.int 2)) (sNil))) (sC (.int 0)))) (sC (.int 1)) (sOp1 negD (sC (.int 1))))))
def f_l_amount : FD := defC 2 0 ss_l_amount
def ss_raised_to : SS := sRet (sCall f_along (sCons (sOp1 lenD (sVar 0)) (sCons (sCall f_rings_in (sCons (sVar 0) (sNil))) (sCons (sVar 1) (sNil)))))
def f_raised_to : FD := defP 2 2 ss_raised_to
def ss_power : SS := sSeq (sDrop (sCall f_check_turn (sCons (sVar 0) (sNil)))) (sSeq (sDrop (sCall f_check_number (sCons (sVar 1) (sCons (sOp1 negD (sC (.int 1000000000000000000000000000000))) (sCons (sC (.int 1000000000000000000000000000000)) (sNil)))))) (sRet (sCall f_raised_to (sCons (sVar 0) (sCons (sVar 1) (sNil))))))
def f_power : FD := defP 2 2 ss_power
def ss_number_back : SS := sSeq (sAsg 1 (sC (.int 1))) (sSeq (sFor (siSeq (sCall f_rings_in (sCons (sVar 0) (sNil)))) (sgName 2) (sAsg 1 (sOp2 lcmD (sVar 1) (sOp1 lenD (sVar 2))))) (sRet (sVar 1)))
def f_number_back : FD := defP 3 1 ss_number_back
def ss_back_after_turn : SS := sSeq (sDrop (sCall f_check_turn (sCons (sVar 0) (sNil)))) (sRet (sCall f_number_back (sCons (sVar 0) (sNil))))
def f_back_after_turn : FD := defP 1 1 ss_back_after_turn
def ss_l_times : SS := sSeq (sAsg 2 (sCall f_l_still (sCons (sOp1 lenD (sVar 0)) (sNil)))) (sSeq (sFor (siRange1 (sCons (sVar 1) (sNil))) (sgName 3) (sAsg 2 (sCall f_one_then (sCons (sVar 2) (sCons (sVar 0) (sNil)))))) (sRet (sVar 2)))
def f_l_times : FD := defP 4 2 ss_l_times
def ss_kind_power : SS := sSeq (sDrop (sCall f_check_kind (sCons (sVar 0) (sNil)))) (sSeq (sDrop (sCall f_check_number (sCons (sVar 1) (sCons (sC (.int 0)) (sCons (sC (.int 1000000000000000000000000000000)) (sNil)))))) (sSeq (sAsg 2 (sLst (sNil))) (sSeq (sFor (siSeq (sVar 0)) (sgName 3) (sSeq (sAsg 4 (sOp2 gcdD (sVar 3) (sVar 1))) (sDrop (sMut 2 fExtT (sCons (sOp2 mulD (sLst (sCons (sOp2 fdivD (sVar 3) (sVar 4)) (sNil))) (sVar 4)) (sNil)))))) (sRet (sOp1 tupleD (sOp1 sortedRD (sVar 2)))))))
def f_kind_power : FD := defP 5 2 ss_kind_power
def ss_back_after : SS := sSeq (sDrop (sCall f_check_kind (sCons (sVar 0) (sNil)))) (sSeq (sAsg 1 (sC (.int 1))) (sSeq (sFor (siSeq (sVar 0)) (sgName 2) (sAsg 1 (sOp2 lcmD (sVar 1) (sVar 2)))) (sRet (sVar 1))))
def f_back_after : FD := defP 3 1 ss_back_after
def ss_l_by_rest : SS := sSeq (sAsg 2 (sLRg1 (sOp1 lenD (sVar 0)))) (sSeq (sFor (siSeq (sCall f_l_loops (sCons (sVar 0) (sNil)))) (sgName 3) (sSeq (sAsg 4 (sOp2 modD (sOp1 intD (sVar 1)) (sOp1 lenD (sVar 3)))) (sSeq (sAsg 5 (sOp2 addD (sSl (sVar 3) (sPart (sVar 4)) (sNoP)) (sSl (sVar 3) (sNoP) (sPart (sVar 4))))) (sFor (siRange1 (sCons (sOp1 lenD (sVar 3)) (sNil))) (sgName 6) (sSetIx 2 (sOp2 ixD (sVar 5) (sVar 6)) (sOp2 ixD (sVar 3) (sVar 6))))))) (sRet (sOp1 tupleD (sVar 2))))
def f_l_by_rest : FD := defP 7 2 ss_l_by_rest
def ss_l_spin_right_k03 : SS := sSeq (sAsg 2 (sCall f_l_still (sCons (sOp1 lenD (sVar 1)) (sNil)))) (sSeq (sFor (siSeq (sLst (sCons (sC (.int 0)) (sCons (sC (.int 1)) (sCons (sC (.int 2)) (sCons (sC (.int 3)) (sCons (sOp2 addD (sC (.int 1)) (sCallC 0 f_l_sip (sCons (sC (.int 12)) (sNil)))) (sNil)))))))) (sgName 3) (sSeq (sAsg 11 (sCall f_l_times (sCons (sVar 1) (sCons (sVar 3) (sNil))))) (sSeq (sIfS (sOr (sB (sOp2 neD (sCall f_power (sCons (sVar 1) (sCons (sVar 3) (sNil)))) (sVar 11))) (sB (sOp2 neD (sCallK true f_power (sCons (sOp1 negD (sVar 3)) (sCons (sVar 1) (sNil)))) (sCall f_back (sCons (sVar 11) (sNil)))))) (sRet (sC (.bl false))) (sNext)) (sIfS (sB (sOp2 neD (sCall f_kind_of (sCons (sVar 11) (sNil))) (sCall f_kind_power (sCons (sCall f_kind_of (sCons (sVar 1) (sNil))) (sCons (sVar 3) (sNil)))))) (sRet (sC (.bl false))) (sNext))))) (sSeq (sPar 12 13 (sCallC 0 f_l_amount (sNil)) (sCallC 0 f_l_amount (sNil))) (sSeq (sFor (siSeq (sLst (sCons (sVar 12) (sCons (sVar 13) (sNil))))) (sgName 4) (sSeq (sIfS (sOr (sB (sOp2 neD (sCall f_power (sCons (sVar 1) (sCons (sVar 4) (sNil)))) (sCall f_l_by_rest (sCons (sVar 1) (sCons (sVar 4) (sNil)))))) (sB (sOp2 neD (sCall f_power (sCons (sVar 1) (sCons (sOp1 negD (sVar 4)) (sNil)))) (sCall f_power (sCons (sCall f_back (sCons (sVar 1) (sNil))) (sCons (sVar 4) (sNil))))))) (sRet (sC (.bl false))) (sNext)) (sIfS (sB (sOp2 neD (sCall f_kind_power (sCons (sCall f_kind_of (sCons (sVar 1) (sNil))) (sCons (sOp1 absD (sVar 4)) (sNil)))) (sCall f_kind_of (sCons (sCall f_power (sCons (sVar 1) (sCons (sVar 4) (sNil)))) (sNil))))) (sRet (sC (.bl false))) (sNext)))) (sSeq (sAsg 5 (sCall f_then (sCons (sCall f_power (sCons (sVar 1) (sCons (sVar 12) (sNil)))) (sCons (sCall f_power (sCons (sVar 1) (sCons (sVar 13) (sNil)))) (sNil))))) (sSeq (sIfS (sAnd (sB (sOp2 leD (sOp1 absD (sOp2 addD (sVar 12) (sVar 13))) (sOp2 powD (sC (.int 10)) (sC (.int 30))))) (sB (sOp2 neD (sCall f_power (sCons (sVar 1) (sCons (sOp2 addD (sVar 12) (sVar 13)) (sNil)))) (sVar 5)))) (sRet (sC (.bl false))) (sNext)) (sSeq (sAsg 6 (sOp2 subD (sCallC 0 f_l_sip (sCons (sC (.int 25)) (sNil))) (sC (.int 12)))) (sSeq (sIfS (sAnd (sB (sOp2 leD (sOp1 absD (sVar 12)) (sOp2 powD (sC (.int 10)) (sC (.int 28))))) (sB (sOp2 neD (sCall f_power (sCons (sVar 1) (sCons (sOp2 mulD (sVar 12) (sVar 6)) (sNil)))) (sCall f_power (sCons (sCall f_power (sCons (sVar 1) (sCons (sVar 12) (sNil)))) (sCons (sVar 6) (sNil))))))) (sRet (sC (.bl false))) (sNext)) (sSeq (sAsg 7 (sCall f_back_after_turn (sCons (sVar 1) (sNil)))) (sSeq (sIfS (sOr (sB (sOp2 neD (sCall f_power (sCons (sVar 1) (sCons (sVar 7) (sNil)))) (sVar 2))) (sB (sOp2 neD (sCallK false f_back_after_turn (sCons (sVar 1) (sNil))) (sCall f_back_after (sCons (sCall f_kind_of (sCons (sVar 1) (sNil))) (sNil)))))) (sRet (sC (.bl false))) (sNext)) (sSeq (sAsg 8 (sLc (siSeq (sLst (sCons (sC (.int 2)) (sCons (sC (.int 3)) (sCons (sC (.int 5)) (sCons (sC (.int 7)) (sCons (sC (.int 11)) (sCons (sC (.int 13)) (sCons (sC (.int 17)) (sCons (sC (.int 19)) (sCons (sC (.int 23)) (sNil)))))))))))) (sgName 10) (sB (sOp2 eqD (sOp2 modD (sOp1 intD (sVar 7)) (sVar 10)) (sC (.int 0)))) (sVar 10) [10])) (sSeq (sIfS (sB (sOp2 ltD (sVar 7) (sC (.int 1)))) (sRet (sC (.bl false))) (sNext)) (sSeq (sAsg 9 (sVar 7)) (sSeq (sFor (siSeq (sVar 8)) (sgName 10) (sIfS (sB (sOp2 eqD (sCall f_power (sCons (sVar 1) (sCons (sOp2 fdivD (sVar 7) (sVar 10)) (sNil)))) (sVar 2))) (sRet (sC (.bl false))) (sNext))) (sSeq (sFor (siSeq (sVar 8)) (sgName 10) (sFor (siRange1 (sCons (sC (.int 5)) (sNil))) (sgName 14) (sAsg 9 (sIf (sB (sOp2 eqD (sOp2 modD (sOp1 intD (sVar 9)) (sVar 10)) (sC (.int 0)))) (sOp2 fdivD (sVar 9) (sVar 10)) (sVar 9))))) (sRet (sOp2 eqD (sVar 9) (sC (.int 1))))))))))))))))))
def f_l_spin_right_k03 : FD := defC 15 1 ss_l_spin_right_k03
def ss_l_right_k03 : SS := sSeq (sAsg 1 (sCallC 0 f_l_many (sNil))) (sSeq (sPar 3 4 (sCallC 0 f_l_spin (sCons (sVar 1) (sNil))) (sCallC 0 f_l_spin (sCons (sVar 1) (sNil)))) (sSeq (sIfS (sOr (sNot (sB (sCallC 0 f_l_spin_right_k03 (sCons (sVar 3) (sNil))))) (sNot (sB (sCallC 0 f_l_spin_right_k03 (sCons (sCall f_then (sCons (sVar 3) (sCons (sVar 4) (sNil)))) (sNil)))))) (sRet (sC (.bl false))) (sNext)) (sSeq (sAsg 2 (sCallC 0 f_l_amount (sNil))) (sRet (sOp2 eqD (sCall f_turned_by (sCons (sVar 3) (sCons (sCall f_power (sCons (sVar 4) (sCons (sVar 2) (sNil)))) (sNil)))) (sCall f_power (sCons (sCall f_turned_by (sCons (sVar 3) (sCons (sVar 4) (sNil)))) (sCons (sVar 2) (sNil)))))))))
def f_l_right_k03 : FD := defC 5 0 ss_l_right_k03
end Pg
end Eng

/-! turns as lists of numbers: iterates, periods, powers -/
namespace Tn
structure IsTurn (xs : List Nat) : Prop where
  lo : 1 ≤ xs.length
  hi : xs.length ≤ 24
  lt : ∀ x ∈ xs, x < xs.length
  nd : xs.Nodup
def ap (xs : List Nat) (x : Nat) : Nat := xs.getD x 0
def it (xs : List Nat) : Nat → Nat → Nat
  | 0, x => x
  | k + 1, x => ap xs (it xs k x)
theorem ap_get {xs : List Nat} {x : Nat} (h : x < xs.length) : ap xs x = xs[x] := by unfold ap; simp [h]
theorem ap_get? {xs : List Nat} {x : Nat} (h : x < xs.length) : xs[x]? = some (ap xs x) := by rw [ap_get h]; exact List.getElem?_eq_getElem h
theorem nodup_length_le : ∀ (n : Nat) (l : List Nat), l.Nodup → (∀ x ∈ l, x < n) → l.length ≤ n
  | 0, l, _, h => by
    cases l with
    | nil => exact Nat.le_refl _
    | cons a l => exact absurd (h a (.head _)) (Nat.not_lt_zero _)
  | n + 1, l, hd, h => by
    have h1 := nodup_length_le n (l.erase n) (hd.erase n) (fun x hx => by
      have := (hd.mem_erase_iff).mp hx
      have := h x this.2
      omega)
    have h2 : l.length ≤ (l.erase n).length + 1 := by
      rw [List.length_erase]
      split <;> omega
    omega
theorem nodup_full {n : Nat} {l : List Nat} (hd : l.Nodup) (h : ∀ x ∈ l, x < n) (hl : l.length = n) {y : Nat} (hy : y < n) : y ∈ l := by
  apply Classical.byContradiction
  intro hn
  have := nodup_length_le n (y :: l) (List.nodup_cons.mpr ⟨hn, hd⟩) (fun x hx => by
    rcases List.mem_cons.mp hx with e | e
    · rw [e]; exact hy
    · exact h x e)
  rw [List.length_cons] at this
  omega
section
variable {xs ys : List Nat}
theorem IsTurn.ap_lt (T : IsTurn xs) {x : Nat} (h : x < xs.length) : ap xs x < xs.length := by rw [ap_get h]; exact T.lt _ (List.getElem_mem h)
theorem IsTurn.ap_inj (T : IsTurn xs) {x y : Nat} (hx : x < xs.length) (hy : y < xs.length) (e : ap xs x = ap xs y) : x = y := by
  rw [ap_get hx, ap_get hy] at e
  exact (List.getElem_inj T.nd).mp e
theorem IsTurn.ap_surj (T : IsTurn xs) {y : Nat} (hy : y < xs.length) : ∃ x, x < xs.length ∧ ap xs x = y := by
  have := nodup_full T.nd T.lt rfl hy
  obtain ⟨i, hi, e⟩ := List.mem_iff_getElem.mp this
  exact ⟨i, hi, by rw [ap_get hi]; exact e⟩
theorem IsTurn.it_lt (T : IsTurn xs) {x : Nat} (h : x < xs.length) : ∀ k, it xs k x < xs.length
  | 0 => h
  | k + 1 => T.ap_lt (T.it_lt h k)
theorem IsTurn.it_inj (T : IsTurn xs) {x y : Nat} (hx : x < xs.length) (hy : y < xs.length) : ∀ k, it xs k x = it xs k y → x = y
  | 0, e => e
  | k + 1, e => T.it_inj hx hy k (T.ap_inj (T.it_lt hx k) (T.it_lt hy k) e)
theorem it_add (xs : List Nat) (j k x : Nat) : it xs (j + k) x = it xs j (it xs k x) := by
  induction j with
  | zero => rw [Nat.zero_add]; rfl
  | succ j ih => rw [Nat.succ_add]; show ap xs _ = ap xs _; rw [ih]
theorem it_succ' (xs : List Nat) (k x : Nat) : it xs (k + 1) x = it xs k (ap xs x) := it_add xs k 1 x
def least (p : Nat → Bool) : Nat → Nat → Nat
  | 0, k => k
  | f + 1, k => if p k then k else least p f (k + 1)
theorem least_ge (p : Nat → Bool) : ∀ f k, k ≤ least p f k
  | 0, k => Nat.le_refl _
  | f + 1, k => by
    unfold least
    split
    · exact Nat.le_refl _
    · exact Nat.le_trans (Nat.le_succ k) (least_ge p f (k + 1))
theorem least_min (p : Nat → Bool) : ∀ f k i, k ≤ i → i < least p f k → p i = false
  | 0, k, i, h, h2 => by unfold least at h2; omega
  | f + 1, k, i, h, h2 => by
    unfold least at h2
    split at h2
    · omega
    · rename_i hp
      by_cases e : i = k
      · subst e; simpa using hp
      · exact least_min p f (k + 1) i (by omega) h2
theorem least_ok (p : Nat → Bool) : ∀ f k i, k ≤ i → i < k + f → p i = true → p (least p f k) = true ∧ least p f k ≤ i
  | 0, k, i, h, h2, _ => by omega
  | f + 1, k, i, h, h2, hp => by
    unfold least
    split
    · rename_i h3; exact ⟨h3, h⟩
    · rename_i h3
      by_cases e : i = k
      · subst e; rw [hp] at h3; simp at h3
      · exact least_ok p f (k + 1) i (by omega) (by omega) hp
def per (xs : List Nat) (x : Nat) : Nat := least (fun k => it xs k x == x) xs.length 1
theorem per_pos (xs : List Nat) (x : Nat) : 1 ≤ per xs x := least_ge _ _ _
theorem IsTurn.some_per (T : IsTurn xs) {x : Nat} (h : x < xs.length) : ∃ k, 1 ≤ k ∧ k ≤ xs.length ∧ it xs k x = x := by
  apply Classical.byContradiction
  intro hn
  have h1 : ∀ k, 1 ≤ k → k ≤ xs.length → it xs k x ≠ x := fun k a b e => hn ⟨k, a, b, e⟩
  have nd : ((List.range (xs.length + 1)).map fun k => it xs k x).Nodup := by
    unfold List.Nodup
    rw [List.pairwise_map]
    refine List.Pairwise.imp_of_mem (fun {a b} ha hb hab e => ?_) List.pairwise_lt_range
    have hb' := List.mem_range.mp hb
    have e2 : it xs a (it xs (b - a) x) = it xs a x := by rw [← it_add, show a + (b - a) = b from by omega]; exact e.symm
    exact h1 (b - a) (by omega) (by omega) (T.it_inj (T.it_lt h _) h a e2)
  have := nodup_length_le xs.length _ nd (fun y hy => by
    obtain ⟨k, _, rfl⟩ := List.mem_map.mp hy
    exact T.it_lt h k)
  simp at this
  omega
theorem IsTurn.it_per (T : IsTurn xs) {x : Nat} (h : x < xs.length) : it xs (per xs x) x = x := by
  obtain ⟨k, h1, h2, e⟩ := T.some_per h
  have := (least_ok (fun k => it xs k x == x) xs.length 1 k h1 (by omega) (by simpa using e)).1
  exact eq_of_beq this
theorem IsTurn.per_le (T : IsTurn xs) {x : Nat} (h : x < xs.length) : per xs x ≤ xs.length := by
  obtain ⟨k, h1, h2, e⟩ := T.some_per h
  exact Nat.le_trans (least_ok (fun k => it xs k x == x) xs.length 1 k h1 (by omega) (by simpa using e)).2 h2
theorem per_min {x i : Nat} (h1 : 1 ≤ i) (h2 : i < per xs x) : it xs i x ≠ x := by
  have := least_min (fun k => it xs k x == x) xs.length 1 i h1 h2
  simpa using this
theorem IsTurn.it_mul_per (T : IsTurn xs) {x : Nat} (h : x < xs.length) : ∀ q, it xs (per xs x * q) x = x
  | 0 => rfl
  | q + 1 => by rw [Nat.mul_succ, it_add, T.it_per h, T.it_mul_per h q]
theorem IsTurn.it_mod (T : IsTurn xs) {x : Nat} (h : x < xs.length) (k : Nat) : it xs (k % per xs x) x = it xs k x := by
  have e := Nat.mod_add_div k (per xs x)
  rw [← e, it_add, T.it_mul_per h, e]
theorem IsTurn.it_dvd (T : IsTurn xs) {x : Nat} (h : x < xs.length) {k : Nat} : it xs k x = x ↔ per xs x ∣ k := by
  constructor
  · intro e
    rw [← T.it_mod h] at e
    apply Classical.byContradiction
    intro hn
    have h1 : 1 ≤ k % per xs x := Nat.one_le_iff_ne_zero.mpr fun z => hn (Nat.dvd_of_mod_eq_zero z)
    exact per_min h1 (Nat.mod_lt _ (per_pos xs x)) e
  · rintro ⟨q, rfl⟩
    exact T.it_mul_per h q
/-- a step back by steps on -/
theorem IsTurn.it_comm (xs : List Nat) (j k x : Nat) : it xs j (it xs k x) = it xs k (it xs j x) := by rw [← it_add, ← it_add, Nat.add_comm]
theorem IsTurn.per_it (T : IsTurn xs) {x : Nat} (h : x < xs.length) (k : Nat) : per xs (it xs k x) = per xs x := by
  have hk := T.it_lt h k
  apply Nat.dvd_antisymm
  · apply (T.it_dvd hk).mp
    rw [IsTurn.it_comm, T.it_per h]
  · apply (T.it_dvd h).mp
    have e := T.it_per hk
    rw [IsTurn.it_comm] at e
    exact T.it_inj (T.it_lt h _) h k e
/-- the iterate by any whole number -/
def itI (xs : List Nat) (z : Int) (x : Nat) : Nat := it xs (z % (per xs x : Int)).toNat x
theorem IsTurn.itI_of (T : IsTurn xs) {x : Nat} (h : x < xs.length) {z : Int} {k : Nat} (e : (per xs x : Int) ∣ (k : Int) - z) : itI xs z x = it xs k x := by
  unfold itI
  have p := per_pos xs x
  have e1 : z % (per xs x : Int) = (k : Int) % (per xs x : Int) := ((Int.emod_emod_of_dvd _ (Int.dvd_refl _)).symm.trans (by
    rw [Int.emod_emod_of_dvd _ (Int.dvd_refl _)]
    exact (Int.emod_eq_emod_iff_emod_sub_eq_zero.mpr (Int.emod_eq_zero_of_dvd e)).symm))
  rw [e1, ← Int.natCast_emod, Int.toNat_natCast, T.it_mod h]
theorem IsTurn.itI_nat (T : IsTurn xs) {x : Nat} (h : x < xs.length) (k : Nat) : itI xs (k : Int) x = it xs k x := T.itI_of h (by rw [Int.sub_self]; exact Int.dvd_zero _)
/-- for any whole number some steps on do the same -/
theorem rep_ex (xs : List Nat) (x : Nat) (z : Int) : ∃ k : Nat, (per xs x : Int) ∣ (k : Int) - z := by
  have p := per_pos xs x
  have h0 : 0 ≤ z % (per xs x : Int) := Int.emod_nonneg _ (by omega)
  refine ⟨(z % (per xs x : Int)).toNat, ?_⟩
  rw [Int.toNat_of_nonneg h0]
  exact Int.dvd_emod_sub_self
theorem IsTurn.itI_lt (T : IsTurn xs) {x : Nat} (h : x < xs.length) (z : Int) : itI xs z x < xs.length := T.it_lt h _
theorem IsTurn.per_itI (T : IsTurn xs) {x : Nat} (h : x < xs.length) (z : Int) : per xs (itI xs z x) = per xs x := T.per_it h _
theorem IsTurn.itI_add (T : IsTurn xs) {x : Nat} (h : x < xs.length) (z w : Int) : itI xs z (itI xs w x) = itI xs (z + w) x := by
  obtain ⟨k, hk⟩ := rep_ex xs x w
  obtain ⟨j, hj⟩ := rep_ex xs x z
  rw [T.itI_of h hk, T.itI_of (T.it_lt h k) (by rw [T.per_it h]; exact hj), ← it_add]
  exact (T.itI_of h (by
    have := Int.dvd_add hj hk
    rw [show ((j + k : Nat) : Int) - (z + w) = ((j : Int) - z) + ((k : Int) - w) by omega]
    exact this)).symm
theorem IsTurn.itI_zero (T : IsTurn xs) {x : Nat} (h : x < xs.length) : itI xs 0 x = x := T.itI_nat h 0
theorem IsTurn.itI_one (T : IsTurn xs) {x : Nat} (h : x < xs.length) : itI xs 1 x = ap xs x := T.itI_nat h 1
theorem IsTurn.itI_inj (T : IsTurn xs) {x y : Nat} (hx : x < xs.length) (hy : y < xs.length) (z : Int) (e : itI xs z x = itI xs z y) : x = y := by
  have h1 := T.itI_add hx (-z) z
  have h2 := T.itI_add hy (-z) z
  rw [Int.add_left_neg, T.itI_zero hx] at h1
  rw [Int.add_left_neg, T.itI_zero hy] at h2
  rw [← h1, ← h2, e]
theorem IsTurn.itI_dvd (T : IsTurn xs) {x : Nat} (h : x < xs.length) {z : Int} : itI xs z x = x ↔ per xs x ∣ z.natAbs := by
  obtain ⟨k, hk⟩ := rep_ex xs x z
  rw [T.itI_of h hk, T.it_dvd h]
  constructor
  · intro e
    have e' : (per xs x : Int) ∣ (k : Int) := Int.natCast_dvd_natCast.mpr e
    have := Int.dvd_sub e' hk
    rw [show (k : Int) - ((k : Int) - z) = z by omega] at this
    exact Int.ofNat_dvd_left.mp this
  · intro e
    have e' : (per xs x : Int) ∣ z := Int.ofNat_dvd_left.mpr e
    have := Int.dvd_add hk e'
    rw [show (k : Int) - z + z = k by omega] at this
    exact Int.natCast_dvd_natCast.mp this
/-! ### powers -/
def powI (xs : List Nat) (z : Int) : List Nat := (List.range xs.length).map (itI xs z)
theorem powI_len (xs : List Nat) (z : Int) : (powI xs z).length = xs.length := by simp [powI]
theorem ap_powI (z : Int) {x : Nat} (h : x < xs.length) : ap (powI xs z) x = itI xs z x := by
  rw [ap_get (by rw [powI_len]; exact h)]
  simp [powI]
theorem turn_ext (e : xs.length = ys.length) (h : ∀ x, x < xs.length → ap xs x = ap ys x) : xs = ys := by
  apply List.ext_getElem e
  intro i h1 h2
  have := h i h1
  rw [ap_get h1, ap_get h2] at this
  exact this
theorem IsTurn.map (T : IsTurn xs) {f : Nat → Nat} (h1 : ∀ x, x < xs.length → f x < xs.length) (h2 : ∀ x y, x < xs.length → y < xs.length → f x = f y → x = y) : IsTurn ((List.range xs.length).map f) where
  lo := by simp; exact T.lo
  hi := by simp; exact T.hi
  lt := by
    intro y hy
    obtain ⟨x, hx, rfl⟩ := List.mem_map.mp hy
    simp
    exact h1 x (List.mem_range.mp hx)
  nd := by
    unfold List.Nodup
    rw [List.pairwise_map]
    refine List.Pairwise.imp_of_mem (fun {a b} ha hb hab e => ?_) List.nodup_range
    exact hab (h2 a b (List.mem_range.mp ha) (List.mem_range.mp hb) e)
theorem IsTurn.powI (T : IsTurn xs) (z : Int) : IsTurn (powI xs z) := T.map (fun x h => T.itI_lt h z) fun x y hx hy e => T.itI_inj hx hy z e
theorem IsTurn.it_powI (T : IsTurn xs) (z : Int) {x : Nat} (h : x < xs.length) : ∀ k : Nat, it (Tn.powI xs z) k x = itI xs (z * k) x
  | 0 => by rw [show z * ((0 : Nat) : Int) = 0 by simp, T.itI_zero h]; rfl
  | k + 1 => by
    show ap (Tn.powI xs z) (it (Tn.powI xs z) k x) = _
    rw [T.it_powI z h k, ap_powI z (T.itI_lt h _), T.itI_add h]
    congr 1
    rw [Int.natCast_add, Int.mul_add]
    omega
theorem dvd_gcd_mul {p m k : Nat} (hp : 0 < p) : p ∣ m * k ↔ p / Nat.gcd p m ∣ k := by
  have hg : 0 < Nat.gcd p m := Nat.gcd_pos_of_pos_left m hp
  obtain ⟨a, ha⟩ := Nat.gcd_dvd_left p m
  obtain ⟨b, hb⟩ := Nat.gcd_dvd_right p m
  have c : Nat.Coprime (p / Nat.gcd p m) (m / Nat.gcd p m) := Nat.coprime_div_gcd_div_gcd hg
  have ea : p / Nat.gcd p m = a := by
    conv => lhs; lhs; rw [ha]
    exact Nat.mul_div_cancel_left a hg
  have eb : m / Nat.gcd p m = b := by
    conv => lhs; lhs; rw [hb]
    exact Nat.mul_div_cancel_left b hg
  rw [ea, eb] at c
  rw [ea]
  generalize Nat.gcd p m = g at *
  subst ha hb
  rw [Nat.mul_assoc]
  constructor
  · intro h
    exact c.dvd_of_dvd_mul_left (Nat.dvd_of_mul_dvd_mul_left hg h)
  · rintro ⟨q, rfl⟩
    exact ⟨b * q, by rw [Nat.mul_assoc, Nat.mul_left_comm b]⟩
theorem IsTurn.per_powI (T : IsTurn xs) (z : Int) {x : Nat} (h : x < xs.length) : per (Tn.powI xs z) x = per xs x / Nat.gcd (per xs x) z.natAbs := by
  have T' := T.powI z
  have h' : x < (Tn.powI xs z).length := by rw [powI_len]; exact h
  have key : ∀ k : Nat, per (Tn.powI xs z) x ∣ k ↔ per xs x / Nat.gcd (per xs x) z.natAbs ∣ k := by
    intro k
    rw [← T'.it_dvd h', T.it_powI z h, T.itI_dvd h, Int.natAbs_mul, Int.natAbs_natCast]
    exact dvd_gcd_mul (per_pos xs x)
  exact Nat.dvd_antisymm ((key _).mpr (Nat.dvd_refl _)) ((key _).mp (Nat.dvd_refl _))
theorem IsTurn.itI_powI (T : IsTurn xs) (z w : Int) {x : Nat} (h : x < xs.length) : itI (Tn.powI xs z) w x = itI xs (z * w) x := by
  have T' := T.powI z
  have h' : x < (Tn.powI xs z).length := by rw [powI_len]; exact h
  obtain ⟨k, hk⟩ := rep_ex (Tn.powI xs z) x w
  rw [T'.itI_of h' hk, T.it_powI z h]
  have e1 : itI xs (z * k - z * w) x = x := by
    rw [T.itI_dvd h]
    obtain ⟨q, hq⟩ := hk
    rw [← Int.mul_sub, hq, T.per_powI z h, Int.natAbs_mul, Int.natAbs_mul, Int.natAbs_natCast, ← Nat.mul_assoc]
    refine Nat.dvd_trans ?_ (Nat.dvd_mul_right _ q.natAbs)
    rw [dvd_gcd_mul (per_pos xs x)]
    exact Nat.dvd_refl _
  have e2 := T.itI_add h (z * w) (z * k - z * w)
  rw [e1, show z * w + (z * ↑k - z * w) = z * k by omega] at e2
  exact e2.symm
theorem IsTurn.powI_powI (T : IsTurn xs) (z w : Int) : Tn.powI (Tn.powI xs z) w = Tn.powI xs (z * w) := by
  apply turn_ext (by simp [powI_len])
  intro x hx
  rw [powI_len] at hx
  have hx' := hx
  rw [powI_len] at hx'
  rw [ap_powI w hx, T.itI_powI z w hx', ap_powI _ hx']
/-! ### one then the other, back, still -/
def thenN (xs ys : List Nat) : List Nat := xs.map fun x => ys.getD x 0
theorem then_len (xs ys : List Nat) : (thenN xs ys).length = xs.length := by simp [thenN]
theorem ap_then {x : Nat} (h : x < xs.length) : ap (thenN xs ys) x = ap ys (ap xs x) := by
  rw [ap_get (by rw [then_len]; exact h), ap_get h]
  simp [thenN, ap]
theorem eq_map (xs : List Nat) : xs = (List.range xs.length).map (ap xs) := by
  apply List.ext_getElem (by simp)
  intro i h1 h2
  simp [ap_get h1]
theorem IsTurn.then (T : IsTurn xs) (U : IsTurn ys) (e : xs.length = ys.length) : IsTurn (thenN xs ys) := by
  have e1 : thenN xs ys = (List.range xs.length).map fun x => ap ys (ap xs x) := by
    apply turn_ext (by simp [thenN])
    intro x hx
    rw [then_len] at hx
    rw [ap_then hx, ap_get (xs := (List.range xs.length).map _) (by simpa using hx)]
    simp
  rw [e1]
  exact T.map (fun x h => by rw [e]; exact U.ap_lt (e ▸ T.ap_lt h)) fun x y hx hy q => T.ap_inj hx hy (U.ap_inj (e ▸ T.ap_lt hx) (e ▸ T.ap_lt hy) q)
def still (n : Nat) : List Nat := List.range n
theorem ap_still {n x : Nat} (h : x < n) : ap (still n) x = x := by
  rw [ap_get (by simpa [still] using h)]
  simp [still]
theorem still_turn {n : Nat} (h1 : 1 ≤ n) (h2 : n ≤ 24) : IsTurn (still n) := ⟨by simp [still, h1], by simp [still, h2], fun x hx => by simpa [still] using hx, List.nodup_range⟩
def setAll : List Nat → Nat → List Nat → List Nat
  | own, _, [] => own
  | own, k, x :: xs => setAll (own.set x k) (k + 1) xs
def backN (xs : List Nat) : List Nat := setAll (List.replicate xs.length 0) 0 xs
theorem setAll_len : ∀ (xs own : List Nat) (k : Nat), (setAll own k xs).length = own.length
  | [], _, _ => rfl
  | x :: xs, own, k => by unfold setAll; rw [setAll_len]; simp
theorem setAll_get : ∀ (xs own : List Nat) (k y : Nat), y ∉ xs → (setAll own k xs)[y]? = own[y]?
  | [], _, _, _, _ => rfl
  | x :: xs, own, k, y, h => by
    unfold setAll
    rw [setAll_get xs _ _ y (fun m => h (.tail _ m)), List.getElem?_set]
    split
    · rename_i e; subst e; exact absurd (List.mem_cons_self) h
    · rfl
theorem setAll_at : ∀ (xs own : List Nat) (k i : Nat) (hi : i < xs.length), xs.Nodup → (∀ x ∈ xs, x < own.length) → (setAll own k xs)[xs[i]]? = some (k + i)
  | [], _, _, _, hi, _, _ => by simp at hi
  | x :: xs, own, k, 0, hi, nd, h => by
    have nd' := List.nodup_cons.mp nd
    show (setAll (own.set x k) (k + 1) xs)[x]? = _
    rw [setAll_get xs _ _ x nd'.1, List.getElem?_set]
    simp [h x (.head _)]
  | x :: xs, own, k, i + 1, hi, nd, h => by
    have nd' := List.nodup_cons.mp nd
    have hi' : i < xs.length := by simpa using hi
    show (setAll (own.set x k) (k + 1) xs)[xs[i]]? = _
    rw [setAll_at xs _ _ i hi' nd'.2 (fun y hy => by rw [List.length_set]; exact h y (.tail _ hy))]
    congr 1
    omega
theorem back_len (xs : List Nat) : (backN xs).length = xs.length := by unfold backN; rw [setAll_len]; simp
theorem IsTurn.back_ap (T : IsTurn xs) {x : Nat} (h : x < xs.length) : ap (backN xs) (ap xs x) = x := by
  have e := setAll_at xs (List.replicate xs.length 0) 0 x h T.nd (fun y hy => by rw [List.length_replicate]; exact T.lt y hy)
  rw [ap_get h]
  unfold ap
  rw [List.getD_eq_getElem?_getD]
  unfold backN
  rw [e]
  simp
theorem IsTurn.back_eq (T : IsTurn xs) : backN xs = Tn.powI xs (-1) := by
  apply turn_ext (by rw [back_len, powI_len])
  intro y hy
  rw [back_len] at hy
  obtain ⟨x, hx, rfl⟩ := T.ap_surj hy
  rw [T.back_ap hx, ap_powI _ hy, ← T.itI_one hx, T.itI_add hx, show (-1 : Int) + 1 = 0 by omega, T.itI_zero hx]
theorem IsTurn.back (T : IsTurn xs) : IsTurn (backN xs) := by rw [T.back_eq]; exact T.powI _
theorem IsTurn.powI_one (T : IsTurn xs) : Tn.powI xs 1 = xs := turn_ext (powI_len _ _) fun x hx => by rw [powI_len] at hx; rw [ap_powI _ hx, T.itI_one hx]
theorem IsTurn.powI_zero (T : IsTurn xs) : Tn.powI xs 0 = still xs.length := turn_ext (by rw [powI_len]; simp [still]) fun x hx => by rw [powI_len] at hx; rw [ap_powI _ hx, T.itI_zero hx, ap_still hx]
theorem IsTurn.then_powI (T : IsTurn xs) (z w : Int) : thenN (Tn.powI xs z) (Tn.powI xs w) = Tn.powI xs (z + w) := by
  apply turn_ext (by simp [then_len, powI_len])
  intro x hx
  rw [then_len, powI_len] at hx
  rw [ap_then (by rw [powI_len]; exact hx), ap_powI _ hx, ap_powI _ (T.itI_lt hx _), T.itI_add hx, ap_powI _ hx, Int.add_comm]
theorem IsTurn.back_powI (T : IsTurn xs) (z : Int) : backN (Tn.powI xs z) = Tn.powI xs (-z) := by
  rw [(T.powI z).back_eq, T.powI_powI, Int.mul_neg, Int.mul_one]
theorem IsTurn.powI_back (T : IsTurn xs) (z : Int) : Tn.powI (backN xs) z = Tn.powI xs (-z) := by
  rw [T.back_eq, T.powI_powI, Int.neg_mul, Int.one_mul]
/-! ### places renamed -/
def cjN (p s : List Nat) : List Nat := thenN (thenN (backN p) s) p
variable {p s : List Nat}
theorem cj_len (p s : List Nat) : (cjN p s).length = p.length := by simp [cjN, then_len, back_len]
theorem IsTurn.cj (P : IsTurn p) (S : IsTurn s) (e : p.length = s.length) : IsTurn (cjN p s) := (P.back.then S (by rw [back_len]; exact e)).then P (by rw [then_len, back_len])
theorem IsTurn.ap_cj (P : IsTurn p) (S : IsTurn s) (e : p.length = s.length) {x : Nat} (h : x < p.length) : ap (cjN p s) (ap p x) = ap p (ap s x) := by
  have h1 := P.ap_lt h
  unfold cjN
  rw [ap_then (by rw [then_len, back_len]; exact h1), ap_then (by rw [back_len]; exact h1), P.back_ap h]
theorem IsTurn.it_cj (P : IsTurn p) (S : IsTurn s) (e : p.length = s.length) {x : Nat} (h : x < p.length) : ∀ k, it (cjN p s) k (ap p x) = ap p (it s k x)
  | 0 => rfl
  | k + 1 => by
    show ap _ (it _ k _) = _
    rw [P.it_cj S e h k, P.ap_cj S e (by rw [e]; exact S.it_lt (e ▸ h) k)]
    rfl
theorem IsTurn.per_cj (P : IsTurn p) (S : IsTurn s) (e : p.length = s.length) {x : Nat} (h : x < p.length) : per (cjN p s) (ap p x) = per s x := by
  have hs : x < s.length := e ▸ h
  have C := P.cj S e
  have hc : ap p x < (cjN p s).length := by rw [cj_len]; exact P.ap_lt h
  have key : ∀ k : Nat, per (cjN p s) (ap p x) ∣ k ↔ per s x ∣ k := by
    intro k
    rw [← C.it_dvd hc, P.it_cj S e h, ← S.it_dvd hs]
    exact ⟨fun q => P.ap_inj (by rw [e]; exact S.it_lt hs k) h q, fun q => by rw [q]⟩
  exact Nat.dvd_antisymm ((key _).mpr (Nat.dvd_refl _)) ((key _).mp (Nat.dvd_refl _))
theorem IsTurn.cj_powI (P : IsTurn p) (S : IsTurn s) (e : p.length = s.length) (z : Int) : cjN p (Tn.powI s z) = Tn.powI (cjN p s) z := by
  apply turn_ext (by simp [cj_len, powI_len])
  intro y hy
  rw [cj_len] at hy
  obtain ⟨x, hx, rfl⟩ := P.ap_surj hy
  have hs : x < s.length := e ▸ hx
  rw [P.ap_cj (S.powI z) (by rw [powI_len]; exact e) hx, ap_powI z hs, ap_powI z (by rw [cj_len]; exact hy)]
  unfold itI
  rw [P.per_cj S e hx, P.it_cj S e hx]
end
end Tn

/-! rings and kinds of turns -/
namespace Tn
def ring (xs : List Nat) (x : Nat) : List Nat := (List.range (per xs x)).map fun k => it xs k x
def isMin (xs : List Nat) (x : Nat) : Bool := (ring xs x).all fun y => decide (x ≤ y)
def reps (xs : List Nat) : List Nat := (List.range xs.length).filter (isMin xs)
def ringsN (xs : List Nat) : List (List Nat) := (reps xs).map (ring xs)
def pers (xs : List Nat) : List Nat := (List.range xs.length).map (per xs)
def lens (xs : List Nat) : List Nat := (ringsN xs).map List.length
variable {xs ys : List Nat}
theorem ring_len (xs : List Nat) (x : Nat) : (ring xs x).length = per xs x := by simp [ring]
theorem mem_ring {x y : Nat} : y ∈ ring xs x ↔ ∃ k, k < per xs x ∧ it xs k x = y := by simp [ring]
theorem IsTurn.mem_ring' (T : IsTurn xs) {x y : Nat} (h : x < xs.length) : y ∈ ring xs x ↔ ∃ k, it xs k x = y := by
  rw [mem_ring]
  exact ⟨fun ⟨k, _, e⟩ => ⟨k, e⟩, fun ⟨k, e⟩ => ⟨k % per xs x, Nat.mod_lt _ (per_pos xs x), by rw [T.it_mod h]; exact e⟩⟩
theorem IsTurn.ring_lt (T : IsTurn xs) {x y : Nat} (h : x < xs.length) (m : y ∈ ring xs x) : y < xs.length := by
  obtain ⟨k, _, rfl⟩ := mem_ring.mp m
  exact T.it_lt h k
theorem IsTurn.ring_nodup (T : IsTurn xs) {x : Nat} (h : x < xs.length) : (ring xs x).Nodup := by
  unfold ring List.Nodup
  rw [List.pairwise_map]
  refine List.Pairwise.imp_of_mem (fun {a b} ha hb hab e => ?_) List.pairwise_lt_range
  have hb' := List.mem_range.mp hb
  have e2 : it xs a (it xs (b - a) x) = it xs a x := by rw [← it_add, show a + (b - a) = b from by omega]; exact e.symm
  exact per_min (by omega) (by omega) (T.it_inj (T.it_lt h _) h a e2)
theorem IsTurn.ring_symm (T : IsTurn xs) {x y : Nat} (h : x < xs.length) (m : y ∈ ring xs x) : x ∈ ring xs y := by
  obtain ⟨k, hk, rfl⟩ := mem_ring.mp m
  rw [T.mem_ring' (T.it_lt h k)]
  refine ⟨per xs x - k, ?_⟩
  rw [← it_add, show per xs x - k + k = per xs x by omega, T.it_per h]
theorem IsTurn.ring_trans (T : IsTurn xs) {x y z : Nat} (h : x < xs.length) (m : y ∈ ring xs x) (n : z ∈ ring xs y) : z ∈ ring xs x := by
  have hy := T.ring_lt h m
  obtain ⟨k, rfl⟩ := (T.mem_ring' h).mp m
  obtain ⟨j, rfl⟩ := (T.mem_ring' hy).mp n
  rw [T.mem_ring' h]
  exact ⟨j + k, it_add xs j k x⟩
theorem self_mem_ring (xs : List Nat) (x : Nat) : x ∈ ring xs x := mem_ring.mpr ⟨0, per_pos xs x, rfl⟩
theorem isMin_iff {x : Nat} : isMin xs x = true ↔ ∀ y ∈ ring xs x, x ≤ y := by simp [isMin]
theorem mem_reps {x : Nat} : x ∈ reps xs ↔ x < xs.length ∧ isMin xs x = true := by simp [reps]
/-- the least of a list that is not empty -/
theorem least_mem : ∀ (l : List Nat), l ≠ [] → ∃ m ∈ l, ∀ y ∈ l, m ≤ y
  | [], h => absurd rfl h
  | [a], _ => ⟨a, .head _, fun y hy => by simp at hy; omega⟩
  | a :: b :: l, _ => by
    obtain ⟨m, h1, h2⟩ := least_mem (b :: l) (by simp)
    by_cases e : a ≤ m
    · exact ⟨a, .head _, fun y hy => by
        rcases List.mem_cons.mp hy with z | z
        · omega
        · have := h2 y z; omega⟩
    · exact ⟨m, .tail _ h1, fun y hy => by
        rcases List.mem_cons.mp hy with z | z
        · omega
        · exact h2 y z⟩
theorem IsTurn.rep_of (T : IsTurn xs) {x : Nat} (h : x < xs.length) : ∃ m ∈ reps xs, x ∈ ring xs m := by
  obtain ⟨m, h1, h2⟩ := least_mem (ring xs x) (fun z => by have := self_mem_ring xs x; rw [z] at this; simp at this)
  have hm := T.ring_lt h h1
  refine ⟨m, mem_reps.mpr ⟨hm, isMin_iff.mpr fun y hy => h2 y (T.ring_trans h h1 hy)⟩, T.ring_symm h h1⟩
theorem IsTurn.not_min (T : IsTurn xs) {x : Nat} (h : x < xs.length) : isMin xs x = false ↔ ∃ y, y < x ∧ x ∈ ring xs y := by
  constructor
  · intro e
    apply Classical.byContradiction
    intro hn
    have : isMin xs x = true := isMin_iff.mpr fun y hy => by
      apply Classical.byContradiction
      intro hlt
      exact hn ⟨y, by omega, T.ring_symm h hy⟩
    rw [this] at e
    cases e
  · rintro ⟨y, hy, hm⟩
    cases e : isMin xs x with
    | false => rfl
    | true =>
      have := isMin_iff.mp e y (T.ring_symm (by omega) hm)
      omega
theorem IsTurn.rings_nodup (T : IsTurn xs) : (ringsN xs).flatten.Nodup := by
  unfold List.Nodup
  rw [List.pairwise_flatten]
  constructor
  · intro l hl
    obtain ⟨x, hx, rfl⟩ := List.mem_map.mp hl
    exact T.ring_nodup (mem_reps.mp hx).1
  · unfold ringsN
    rw [List.pairwise_map]
    have : (reps xs).Pairwise (· < ·) := List.Pairwise.filter _ List.pairwise_lt_range
    refine List.Pairwise.imp_of_mem (fun {a b} ha hb hab y hy z hz e => ?_) this
    subst e
    have ha' := mem_reps.mp ha
    have hb' := mem_reps.mp hb
    have h1 : a ∈ ring xs b := T.ring_trans hb'.1 hz (T.ring_symm ha'.1 hy)
    have := isMin_iff.mp hb'.2 a h1
    omega
theorem IsTurn.mem_rings (T : IsTurn xs) {y : Nat} : y ∈ (ringsN xs).flatten ↔ y < xs.length := by
  rw [List.mem_flatten]
  constructor
  · rintro ⟨l, hl, hy⟩
    obtain ⟨x, hx, rfl⟩ := List.mem_map.mp hl
    exact T.ring_lt (mem_reps.mp hx).1 hy
  · intro h
    obtain ⟨m, hm, hy⟩ := T.rep_of h
    exact ⟨_, List.mem_map.mpr ⟨m, hm, rfl⟩, hy⟩
theorem IsTurn.rings_perm (T : IsTurn xs) : (ringsN xs).flatten.Perm (List.range xs.length) :=
  (List.perm_ext_iff_of_nodup T.rings_nodup List.nodup_range).mpr fun a => by rw [T.mem_rings, List.mem_range]
theorem lens_eq (xs : List Nat) : lens xs = (reps xs).map (per xs) := by
  unfold lens ringsN
  rw [List.map_map]
  exact List.map_congr_left fun a _ => ring_len xs a
theorem IsTurn.lens_sum (T : IsTurn xs) : (lens xs).sum = xs.length := by
  have := T.rings_perm.length_eq
  rw [List.length_flatten, List.length_range] at this
  exact this
theorem lens_pos {L : Nat} (h : L ∈ lens xs) : 1 ≤ L := by
  rw [lens_eq] at h
  obtain ⟨x, _, rfl⟩ := List.mem_map.mp h
  exact per_pos xs x
theorem IsTurn.per_mem_lens (T : IsTurn xs) {x : Nat} (h : x < xs.length) : per xs x ∈ lens xs := by
  obtain ⟨m, hm, hx⟩ := T.rep_of h
  rw [lens_eq]
  refine List.mem_map.mpr ⟨m, hm, ?_⟩
  obtain ⟨k, _, rfl⟩ := mem_ring.mp hx
  exact (T.per_it (mem_reps.mp hm).1 k).symm
theorem IsTurn.lens_per (T : IsTurn xs) {L : Nat} (h : L ∈ lens xs) : ∃ x, x < xs.length ∧ per xs x = L := by
  rw [lens_eq] at h
  obtain ⟨x, hx, rfl⟩ := List.mem_map.mp h
  exact ⟨x, (mem_reps.mp hx).1, rfl⟩
/-! ### kinds by the lengths of all places -/
def expand (ls : List Nat) : List Nat := (ls.map fun L => List.replicate L L).flatten
theorem IsTurn.expand_lens (T : IsTurn xs) : (expand (lens xs)).Perm (pers xs) := by
  have e : expand (lens xs) = (ringsN xs).flatten.map (per xs) := by
    unfold expand
    rw [lens_eq, List.map_map, List.map_flatten]
    unfold ringsN
    rw [List.map_map]
    congr 1
    refine List.map_congr_left fun x hx => ?_
    have hx' := (mem_reps.mp hx).1
    show List.replicate (per xs x) (per xs x) = (ring xs x).map (per xs)
    unfold ring
    rw [List.map_map]
    symm
    rw [List.eq_replicate_iff]
    refine ⟨by simp, fun b hb => ?_⟩
    obtain ⟨k, _, rfl⟩ := List.mem_map.mp hb
    exact T.per_it hx' k
  rw [e]
  exact T.rings_perm.map _
theorem count_expand (a : Nat) : ∀ ls : List Nat, (expand ls).count a = a * ls.count a
  | [] => by simp [expand]
  | L :: ls => by
    have ih := count_expand a ls
    unfold expand at ih ⊢
    rw [List.map_cons, List.flatten_cons, List.count_append, ih, List.count_replicate, List.count_cons]
    by_cases e : L = a
    · subst e; simp [Nat.mul_add]; omega
    · simp [e]
theorem expand_perm {ls ms : List Nat} (h1 : ∀ L ∈ ls, 1 ≤ L) (h2 : ∀ L ∈ ms, 1 ≤ L) (h : (expand ls).Perm (expand ms)) : ls.Perm ms := by
  rw [List.perm_iff_count]
  intro a
  have e := List.perm_iff_count.mp h a
  rw [count_expand, count_expand] at e
  by_cases z : a = 0
  · subst z
    rw [List.count_eq_zero.mpr (fun m => by have := h1 0 m; omega), List.count_eq_zero.mpr (fun m => by have := h2 0 m; omega)]
  · exact Nat.eq_of_mul_eq_mul_left (by omega) e
theorem IsTurn.lens_perm (T : IsTurn xs) (U : IsTurn ys) (h : (pers xs).Perm (pers ys)) : (lens xs).Perm (lens ys) :=
  expand_perm (fun _ => lens_pos) (fun _ => lens_pos) (T.expand_lens.trans (h.trans U.expand_lens.symm))
def kpow (ls : List Nat) (m : Nat) : List Nat := (ls.map fun L => List.replicate (Nat.gcd L m) (L / Nat.gcd L m)).flatten
theorem expand_append (a b : List Nat) : expand (a ++ b) = expand a ++ expand b := by simp [expand]
theorem expand_rep (g L : Nat) : expand (List.replicate g L) = List.replicate (g * L) L := by
  induction g with
  | zero => simp [expand]
  | succ g ih =>
    rw [List.replicate_succ, Nat.succ_mul, Nat.add_comm]
    have : expand (L :: List.replicate g L) = List.replicate L L ++ expand (List.replicate g L) := by simp [expand]
    rw [this, ih, List.replicate_append_replicate]
theorem expand_kpow (m : Nat) : ∀ ls : List Nat, expand (kpow ls m) = (expand ls).map fun L => L / Nat.gcd L m
  | [] => rfl
  | L :: ls => by
    have ih := expand_kpow m ls
    have e1 : kpow (L :: ls) m = List.replicate (Nat.gcd L m) (L / Nat.gcd L m) ++ kpow ls m := by simp [kpow]
    have e2 : expand (L :: ls) = List.replicate L L ++ expand ls := by simp [expand]
    rw [e1, e2, expand_append, ih, expand_rep, List.map_append, List.map_replicate, Nat.mul_div_cancel' (Nat.gcd_dvd_left L m)]
theorem kpow_pos {ls : List Nat} {m L : Nat} (h1 : ∀ L ∈ ls, 1 ≤ L) (h : L ∈ kpow ls m) : 1 ≤ L := by
  unfold kpow at h
  obtain ⟨l, hl, hL⟩ := List.mem_flatten.mp h
  obtain ⟨M, hM, rfl⟩ := List.mem_map.mp hl
  have p := h1 M hM
  have := (List.mem_replicate.mp hL).2
  rw [this]
  exact Nat.div_pos (Nat.le_of_dvd p (Nat.gcd_dvd_left M m)) (Nat.gcd_pos_of_pos_left m p)
theorem IsTurn.lens_powI (T : IsTurn xs) (z : Int) : (lens (Tn.powI xs z)).Perm (kpow (lens xs) z.natAbs) := by
  refine expand_perm (fun _ => lens_pos) (fun _ h => kpow_pos (fun _ => lens_pos) h) ?_
  refine (T.powI z).expand_lens.trans ?_
  rw [expand_kpow]
  refine List.Perm.trans ?_ (T.expand_lens.map _).symm
  have e : pers (Tn.powI xs z) = (pers xs).map fun L => L / Nat.gcd L z.natAbs := by
    unfold pers
    rw [powI_len, List.map_map]
    refine List.map_congr_left fun x hx => ?_
    exact T.per_powI z (List.mem_range.mp hx)
  rw [e]
theorem IsTurn.perm_range (T : IsTurn xs) : xs.Perm (List.range xs.length) :=
  (List.perm_ext_iff_of_nodup T.nd List.nodup_range).mpr fun a => by
    rw [List.mem_range]
    exact ⟨T.lt a, fun h => nodup_full T.nd T.lt rfl h⟩
theorem IsTurn.lens_cj {p s : List Nat} (P : IsTurn p) (S : IsTurn s) (e : p.length = s.length) : (lens (cjN p s)).Perm (lens s) := by
  refine (P.cj S e).lens_perm S ?_
  unfold pers
  rw [cj_len]
  have h1 : ((List.range p.length).map (ap p)).map (per (cjN p s)) = (List.range s.length).map (per s) := by
    rw [List.map_map, ← e]
    exact List.map_congr_left fun x hx => P.per_cj S e (List.mem_range.mp hx)
  rw [← h1, ← eq_map p]
  exact (P.perm_range.map _).symm
theorem kpow_perm {ls ms : List Nat} (m : Nat) (h : ls.Perm ms) : (kpow ls m).Perm (kpow ms m) := (h.map _).flatten
/-! ### the least number that lets all stay -/
def lcmL (ls : List Nat) : Nat := ls.foldl Nat.lcm 1
theorem foldl_lcm_dvd : ∀ (ls : List Nat) (a k : Nat), ls.foldl Nat.lcm a ∣ k ↔ a ∣ k ∧ ∀ L ∈ ls, L ∣ k
  | [], a, k => by simp
  | L :: ls, a, k => by
    rw [List.foldl_cons, foldl_lcm_dvd ls, Nat.lcm_dvd_iff]
    simp [and_assoc]
theorem lcmL_dvd {ls : List Nat} {k : Nat} : lcmL ls ∣ k ↔ ∀ L ∈ ls, L ∣ k := by
  unfold lcmL
  rw [foldl_lcm_dvd]
  simp
theorem lcmL_perm {ls ms : List Nat} (h : ls.Perm ms) : lcmL ls = lcmL ms :=
  Nat.dvd_antisymm (lcmL_dvd.mpr fun L m => lcmL_dvd.mp (Nat.dvd_refl _) L (h.mem_iff.mp m)) (lcmL_dvd.mpr fun L m => lcmL_dvd.mp (Nat.dvd_refl _) L (h.mem_iff.mpr m))
theorem foldl_lcm_pos : ∀ (ls : List Nat) (a : Nat), 1 ≤ a → (∀ L ∈ ls, 1 ≤ L) → 1 ≤ ls.foldl Nat.lcm a
  | [], a, h, _ => h
  | L :: ls, a, h, h2 => foldl_lcm_pos ls _ (Nat.lcm_pos h (h2 L (.head _))) fun M m => h2 M (.tail _ m)
theorem two_pow_ge (L : Nat) : L ≤ 2 ^ L := Nat.le_of_lt Nat.lt_two_pow_self
theorem foldl_lcm_le : ∀ (ls : List Nat) (a : Nat), ls.foldl Nat.lcm a ≤ a * 2 ^ ls.sum
  | [], a => by simp
  | L :: ls, a => by
    rw [List.foldl_cons]
    refine Nat.le_trans (foldl_lcm_le ls _) ?_
    rw [List.sum_cons, Nat.pow_add, ← Nat.mul_assoc]
    refine Nat.mul_le_mul_right _ ?_
    have h1 : Nat.lcm a L ≤ a * L := Nat.div_le_self _ _
    exact Nat.le_trans h1 (Nat.mul_le_mul_left _ (two_pow_ge L))
theorem IsTurn.powI_still (T : IsTurn xs) {z : Int} : Tn.powI xs z = still xs.length ↔ lcmL (lens xs) ∣ z.natAbs := by
  rw [lcmL_dvd]
  constructor
  · intro e L hL
    obtain ⟨x, hx, rfl⟩ := T.lens_per hL
    have h1 := ap_powI z hx
    rw [e, ap_still hx] at h1
    exact (T.itI_dvd hx).mp h1.symm
  · intro h
    apply turn_ext (by rw [powI_len]; simp [still])
    intro x hx
    rw [powI_len] at hx
    rw [ap_powI z hx, ap_still hx]
    exact (T.itI_dvd hx).mpr (h _ (T.per_mem_lens hx))
/-! ### all primes up to 23 taken out -/
theorem IsTurn.lens_le (T : IsTurn xs) {L : Nat} (h : L ∈ lens xs) : L ≤ 24 := by
  obtain ⟨x, hx, rfl⟩ := T.lens_per h
  exact Nat.le_trans (T.per_le hx) T.hi
def big : Nat := 5354228880
theorem dvd_big : ∀ L : Nat, 1 ≤ L → L ≤ 24 → L ∣ big := by
  have : ∀ L : Fin 25, 1 ≤ L.val → L.val ∣ big := by decide
  exact fun L h1 h2 => this ⟨L, by omega⟩ h1
theorem IsTurn.lcm_big (T : IsTurn xs) : lcmL (lens xs) ∣ big := lcmL_dvd.mpr fun L h => dvd_big L (lens_pos h) (T.lens_le h)
end Tn

/-! pure side: how readings run -/
namespace Eng
open PySem PySem.Spec PyProof.Rows L2 Evl
variable [Tb]
section
variable {α β : Type}
@[simp] theorem x_bind (a : α) (s : S) (f : α → S → Res β) : (Res.ok a s).bind f = f a s := id rfl
@[simp] theorem x_noX (a : α) (s : S) : (Res.ok a s).noX = .ok a s := id rfl
theorem x_var_val {i : Nat} {s : S} {d : D} (h : s.env[i]? = some (.val d)) : sVar i s = .ok (.dat d) s := by unfold sVar; rw [h]
@[simp] theorem x_c (d : D) (s : S) : sC d s = .ok (.dat d) s := id rfl
@[simp] theorem x_frz (d : D) (s : S) : frz (.dat d) s = .ok d s := id rfl
@[simp] theorem x_frzF (ds : List D) (s : S) : frz (.fr ds) s = .ok (.lst ds) s := id rfl
@[simp] theorem x_peek (d : D) (s : S) : peek (.dat d) s = some d := id rfl
@[simp] theorem x_peekF (ds : List D) (s : S) : peek (.fr ds) s = some (.lst ds) := id rfl
@[simp] theorem x_nil (s : S) : sNil s = .ok [] s := id rfl
@[simp] theorem x_next (s : S) : sNext s = .ok .next s := id rfl
@[simp] theorem x_stow (d : D) (s : S) : stow (.dat d) s = .ok (.val d) s := id rfl
@[simp] theorem x_stowF (ds : List D) (s : S) : stow (.fr ds) s = .ok (.own ds) s := id rfl
@[simp] theorem x_yes (s : S) : sYes s = .ok true s := id rfl
@[simp] theorem x_add (i j : Int) : addD (.int i) (.int j) = some (.dat (.int (i + j))) := id rfl
@[simp] theorem x_sub (i j : Int) : subD (.int i) (.int j) = some (.dat (.int (i - j))) := id rfl
@[simp] theorem x_lt (i j : Int) : ltD (.int i) (.int j) = some (.dat (.bl (decide (i < j)))) := id rfl
@[simp] theorem x_le (i j : Int) : leD (.int i) (.int j) = some (.dat (.bl (decide (i ≤ j)))) := id rfl
@[simp] theorem x_gt (i j : Int) : gtD (.int i) (.int j) = some (.dat (.bl (decide (j < i)))) := id rfl
@[simp] theorem x_ge (i j : Int) : geD (.int i) (.int j) = some (.dat (.bl (decide (j ≤ i)))) := id rfl
@[simp] theorem x_neg (i : Int) : negD (.int i) = some (.dat (.int (-i))) := id rfl
@[simp] theorem x_int (i : Int) : intD (.int i) = some (.dat (.int i)) := id rfl
@[simp low] theorem x_lenT (ds : List D) : lenD (.tup ds) = some (.dat (.int ds.length)) := id rfl
@[simp low] theorem x_lenL (ds : List D) : lenD (.lst ds) = some (.dat (.int ds.length)) := id rfl
@[simp] theorem x_tupL (ds : List D) : tupleD (.lst ds) = some (.dat (.tup ds)) := id rfl
@[simp] theorem x_isi_int_int (x : Int) : isiD "int" (.int x) = some (.dat (.bl true)) := isi_int_int x
@[simp] theorem x_isi_int_bool (x : Int) : isiD "bool" (.int x) = some (.dat (.bl false)) := isi_int_bool x
@[simp] theorem x_isi_tup (x : List D) : isiD "tuple" (.tup x) = some (.dat (.bl true)) := isi_tup_tuple x
end
/-! ### loops -/
theorem forL_inv {sg : SG} {sb : SS} (I : Nat → S → Prop) : ∀ (ds : List D) (k : Nat) (s : S), I k s → (∀ j d s, ds[j]? = some d → I (k + j) s → ∃ s1 s2, sg d s = some s1 ∧ sb s1 = .ok .next s2 ∧ I (k + j + 1) s2) → ∃ s', forL sg sb ds s = .ok .next s' ∧ I (k + ds.length) s'
  | [], k, s, h, _ => ⟨s, rfl, h⟩
  | d :: ds, k, s, h, st => by
    obtain ⟨s1, s2, e1, e2, h2⟩ := st 0 d s rfl h
    obtain ⟨s', e3, h3⟩ := forL_inv I ds (k + 1) s2 h2 (fun j d' s'' hj hi => by
      obtain ⟨t1, t2, a, b, c⟩ := st (j + 1) d' s'' (by simpa using hj) (by rw [show k + (j + 1) = k + 1 + j by omega]; exact hi)
      exact ⟨t1, t2, a, b, by rw [show k + 1 + j + 1 = k + (j + 1) + 1 by omega]; exact c⟩)
    refine ⟨s', ?_, by rw [List.length_cons, show k + (ds.length + 1) = k + 1 + ds.length by omega]; exact h3⟩
    unfold forL
    rw [e1]
    simp only [e2]
    exact e3
def nD (x : Nat) : D := .int (x : Int)
def tD (xs : List Nat) : D := .tup (xs.map nD)
def rsD (rs : List (List Nat)) : D := .tup (rs.map tD)
theorem rgD_nD (n : Nat) : rgD 0 n = (List.range n).map nD := by
  unfold rgD
  exact List.map_congr_left fun a _ => by show D.int (0 + (a : Int)) = D.int (a : Int); rw [Int.zero_add]
/-- for i in range(n) -/
theorem for_range {i : Nat} {sb : SS} (I : Nat → S → Prop) {n : Nat} {s : S} (h0 : I 0 s) (st : ∀ j s, j < n → I j s → ∃ s2, sb (setSl s i (.val (nD j))) = .ok .next s2 ∧ I (j + 1) s2) : ∃ s', forL (sgName i) sb (rgD 0 n) s = .ok .next s' ∧ I n s' := by
  obtain ⟨s', e, h⟩ := forL_inv (sg := sgName i) (sb := sb) I (rgD 0 n) 0 s h0 (fun j d s hj hi => by
    rw [rgD_nD, List.getElem?_map] at hj
    by_cases hn : j < n
    · rw [List.getElem?_range hn] at hj
      cases hj
      rw [Nat.zero_add] at hi ⊢
      obtain ⟨s2, a, b⟩ := st j s hn hi
      exact ⟨_, s2, rfl, a, b⟩
    · rw [List.getElem?_eq_none (by simp; omega)] at hj
      cases hj)
  refine ⟨s', e, ?_⟩
  simpa [rgD] using h
/-- for i in a list -/
theorem for_map {α : Type} {f : α → D} {i : Nat} {sb : SS} (I : Nat → S → Prop) {xs : List α} {s : S} (h0 : I 0 s) (st : ∀ j x s, xs[j]? = some x → I j s → ∃ s2, sb (setSl s i (.val (f x))) = .ok .next s2 ∧ I (j + 1) s2) : ∃ s', forL (sgName i) sb (xs.map f) s = .ok .next s' ∧ I xs.length s' := by
  obtain ⟨s', e, h⟩ := forL_inv (sg := sgName i) (sb := sb) I (xs.map f) 0 s h0 (fun j d s hj hi => by
    rw [List.getElem?_map] at hj
    cases hx : xs[j]? with
    | none => rw [hx] at hj; cases hj
    | some x =>
      rw [hx] at hj
      cases hj
      rw [Nat.zero_add] at hi ⊢
      obtain ⟨s2, a, b⟩ := st j x s hx hi
      exact ⟨_, s2, rfl, a, b⟩)
  refine ⟨s', e, ?_⟩
  simpa using h
/-- for i, j in enumerate(a list) -/
theorem for_enum {α : Type} {f : α → D} {i j : Nat} {sb : SS} (I : Nat → S → Prop) {xs : List α} {s : S} (h0 : I 0 s) (st : ∀ k x s, xs[k]? = some x → I k s → ∃ s2, sb (setSl (setSl s i (.val (nD k))) j (.val (f x))) = .ok .next s2 ∧ I (k + 1) s2) : ∃ s', forL (sgTwo i j) sb (enD (xs.map f)) s = .ok .next s' ∧ I xs.length s' := by
  obtain ⟨s', e, h⟩ := forL_inv (sg := sgTwo i j) (sb := sb) I (enD (xs.map f)) 0 s h0 (fun k d s hj hi => by
    unfold enD at hj
    rw [List.getElem?_map, List.getElem?_zipIdx, List.getElem?_map] at hj
    cases hx : xs[k]? with
    | none => rw [hx] at hj; cases hj
    | some x =>
      rw [hx] at hj
      simp only [Option.map_some, Option.some.injEq] at hj
      subst hj
      rw [Nat.zero_add] at hi ⊢
      obtain ⟨s2, a, b⟩ := st k x s hx hi
      exact ⟨_, s2, rfl, by simpa [nD] using a, b⟩)
  refine ⟨s', e, ?_⟩
  simpa [enD] using h
theorem while_inv {t : SB} {sb : SS} (I : Nat → S → Prop) (Q : S → Prop) (m : Nat) (st : ∀ j s, j < m → I j s → ∃ s1 s2, t s = .ok true s1 ∧ sb s1 = .ok .next s2 ∧ I (j + 1) s2) (fin : ∀ s, I m s → ∃ s', t s = .ok false s' ∧ Q s') :
    ∀ (j fuel : Nat) (s : S), j ≤ m → m < j + fuel → I j s → ∃ s', whileL t sb fuel s = .ok .next s' ∧ Q s'
  | j, 0, s, h1, h2, _ => by omega
  | j, fuel + 1, s, h1, h2, hi => by
    unfold whileL
    by_cases e : j = m
    · subst e
      obtain ⟨s', a, b⟩ := fin s hi
      exact ⟨s', by rw [a]; rfl, b⟩
    · obtain ⟨s1, s2, a, b, c⟩ := st j s (by omega) hi
      obtain ⟨s', d, q⟩ := while_inv I Q m st fin (j + 1) fuel s2 (by omega) (by omega) c
      refine ⟨s', ?_, q⟩
      rw [a]
      simp only [x_bind]
      rw [b]
      simp only [x_bind]
      exact d
/-! ### comparisons of data -/
structure Eqs {α : Type} [DecidableEq α] (f : α → D) (g : α → PyData) (k : Nat) : Prop where
  py : ∀ x, (f x).py = some (g x)
  lay : ∀ x, (g x).canLay0 = true
  dep : ∀ x, (g x).depth ≤ k
  eqv : ∀ x y, PyData.eqv (g x) (g y) = decide (x = y)
section
variable {α : Type} [DecidableEq α] {f : α → D} {g : α → PyData} {k : Nat}
theorem Eqs.pys (h : Eqs f g k) : ∀ xs : List α, D.pys (xs.map f) = some (xs.map g)
  | [] => rfl
  | x :: xs => by
    rw [List.map_cons]
    simp only [D.pys, h.py x, Eqs.pys h xs]
    rfl
theorem Eqs.lays (h : Eqs f g k) : ∀ xs : List α, PyData.canLayAll0 (xs.map g) = true
  | [] => rfl
  | x :: xs => by
    rw [List.map_cons]
    simp only [PyData.canLayAll0, h.lay x, Eqs.lays h xs, Bool.and_self]
theorem Eqs.deps (h : Eqs f g k) : ∀ xs : List α, PyData.depthAll (xs.map g) ≤ k
  | [] => Nat.zero_le _
  | x :: xs => by
    rw [List.map_cons]
    simp only [PyData.depthAll]
    have a := h.dep x
    have b := Eqs.deps h xs
    omega
theorem Eqs.eqvs (h : Eqs f g k) : ∀ xs ys : List α, PyData.eqvAll (xs.map g) (ys.map g) = decide (xs = ys)
  | [], [] => rfl
  | x :: xs, [] => by simp [PyData.eqvAll]
  | [], y :: ys => by simp [PyData.eqvAll]
  | x :: xs, y :: ys => by
    rw [List.map_cons, List.map_cons]
    simp only [PyData.eqvAll, h.eqv x y, Eqs.eqvs h xs ys]
    by_cases e1 : x = y <;> by_cases e2 : xs = ys <;> simp [e1, e2]
theorem Eqs.tup (h : Eqs f g k) : Eqs (fun xs : List α => D.tup (xs.map f)) (fun xs => PyData.tuple (xs.map g)) (k + 1) where
  py xs := by simp only [D.py, h.pys xs, Option.map_some]
  lay xs := by simp only [PyData.canLay0, h.lays xs]
  dep xs := by simp only [PyData.depth]; have := h.deps xs; omega
  eqv xs ys := by simp only [PyData.eqv, h.eqvs xs ys]
theorem Eqs.lst (h : Eqs f g k) : Eqs (fun xs : List α => D.lst (xs.map f)) (fun xs => PyData.list (xs.map g)) (k + 1) where
  py xs := by simp only [D.py, h.pys xs, Option.map_some]
  lay xs := by simp only [PyData.canLay0, h.lays xs]
  dep xs := by simp only [PyData.depth]; have := h.deps xs; omega
  eqv xs ys := by simp only [PyData.eqv, h.eqvs xs ys]
theorem Eqs.q? (h : Eqs f g k) (hk : k ≤ 64) (x y : α) : eqv? (f x) (f y) = some (decide (x = y)) := by
  unfold eqv?
  rw [h.py x, h.py y]
  have a : SeqAt.shaped (g x) = true := by unfold SeqAt.shaped; rw [h.lay x]; simp; exact Nat.le_trans (h.dep x) hk
  have b : SeqAt.shaped (g y) = true := by unfold SeqAt.shaped; rw [h.lay y]; simp; exact Nat.le_trans (h.dep y) hk
  simp only [a, b, and_self, if_true, h.eqv]
theorem Eqs.eq (h : Eqs f g k) (hk : k ≤ 64) (x y : α) : eqD (f x) (f y) = some (.dat (.bl (decide (x = y)))) := by unfold eqD; rw [h.q? hk]; rfl
theorem Eqs.ne (h : Eqs f g k) (hk : k ≤ 64) (x y : α) : neD (f x) (f y) = some (.dat (.bl (!decide (x = y)))) := by unfold neD; rw [h.q? hk]; rfl
end
theorem eqs_int : Eqs D.int PyData.int 0 := ⟨fun _ => rfl, fun _ => rfl, fun _ => Nat.le_refl _, fun x y => by simp only [PyData.eqv]; by_cases e : x = y <;> simp [e]⟩
theorem eqs_nat : Eqs nD (fun x => PyData.int (x : Int)) 0 := ⟨fun _ => rfl, fun _ => rfl, fun _ => Nat.le_refl _, fun x y => by
  simp only [PyData.eqv]
  by_cases e : x = y
  · simp [e]
  · have : ¬ (x : Int) = (y : Int) := by omega
    simp [e, this]⟩
theorem eqs_bl : Eqs D.bl PyData.bool 0 := ⟨fun _ => rfl, fun _ => rfl, fun _ => Nat.le_refl _, fun x y => by simp only [PyData.eqv]; cases x <;> cases y <;> rfl⟩
@[simp] theorem x_eqI (i j : Int) : eqD (.int i) (.int j) = some (.dat (.bl (decide (i = j)))) := eqs_int.eq (by decide) i j
@[simp] theorem x_neI (i j : Int) : neD (.int i) (.int j) = some (.dat (.bl (!decide (i = j)))) := eqs_int.ne (by decide) i j
@[simp] theorem x_addN1 (a : Nat) (j : Int) : addD (nD a) (.int j) = some (.dat (.int ((a : Int) + j))) := id rfl
@[simp] theorem x_addN2 (i : Int) (b : Nat) : addD (.int i) (nD b) = some (.dat (.int (i + (b : Int)))) := id rfl
@[simp] theorem x_addN3 (a b : Nat) : addD (nD a) (nD b) = some (.dat (.int ((a : Int) + (b : Int)))) := id rfl
@[simp] theorem x_subN1 (a : Nat) (j : Int) : subD (nD a) (.int j) = some (.dat (.int ((a : Int) - j))) := id rfl
@[simp] theorem x_subN2 (i : Int) (b : Nat) : subD (.int i) (nD b) = some (.dat (.int (i - (b : Int)))) := id rfl
@[simp] theorem x_subN3 (a b : Nat) : subD (nD a) (nD b) = some (.dat (.int ((a : Int) - (b : Int)))) := id rfl
@[simp] theorem x_ltN1 (a : Nat) (j : Int) : ltD (nD a) (.int j) = some (.dat (.bl (decide ((a : Int) < j)))) := id rfl
@[simp] theorem x_ltN2 (i : Int) (b : Nat) : ltD (.int i) (nD b) = some (.dat (.bl (decide (i < (b : Int))))) := id rfl
@[simp] theorem x_ltN3 (a b : Nat) : ltD (nD a) (nD b) = some (.dat (.bl (decide ((a : Int) < (b : Int))))) := id rfl
@[simp] theorem x_leN1 (a : Nat) (j : Int) : leD (nD a) (.int j) = some (.dat (.bl (decide ((a : Int) ≤ j)))) := id rfl
@[simp] theorem x_leN2 (i : Int) (b : Nat) : leD (.int i) (nD b) = some (.dat (.bl (decide (i ≤ (b : Int))))) := id rfl
@[simp] theorem x_leN3 (a b : Nat) : leD (nD a) (nD b) = some (.dat (.bl (decide ((a : Int) ≤ (b : Int))))) := id rfl
@[simp] theorem x_gtN1 (a : Nat) (j : Int) : gtD (nD a) (.int j) = some (.dat (.bl (decide (j < (a : Int))))) := id rfl
@[simp] theorem x_gtN2 (i : Int) (b : Nat) : gtD (.int i) (nD b) = some (.dat (.bl (decide ((b : Int) < i)))) := id rfl
@[simp] theorem x_gtN3 (a b : Nat) : gtD (nD a) (nD b) = some (.dat (.bl (decide ((b : Int) < (a : Int))))) := id rfl
@[simp] theorem x_geN1 (a : Nat) (j : Int) : geD (nD a) (.int j) = some (.dat (.bl (decide (j ≤ (a : Int))))) := id rfl
@[simp] theorem x_geN2 (i : Int) (b : Nat) : geD (.int i) (nD b) = some (.dat (.bl (decide ((b : Int) ≤ i)))) := id rfl
@[simp] theorem x_geN3 (a b : Nat) : geD (nD a) (nD b) = some (.dat (.bl (decide ((b : Int) ≤ (a : Int))))) := id rfl
@[simp] theorem x_eqN1 (a : Nat) (j : Int) : eqD (nD a) (.int j) = some (.dat (.bl (decide ((a : Int) = j)))) := x_eqI _ _
@[simp] theorem x_eqN2 (i : Int) (b : Nat) : eqD (.int i) (nD b) = some (.dat (.bl (decide (i = (b : Int))))) := x_eqI _ _
@[simp] theorem x_eqN3 (a b : Nat) : eqD (nD a) (nD b) = some (.dat (.bl (decide ((a : Int) = (b : Int))))) := x_eqI _ _
@[simp] theorem x_neN1 (a : Nat) (j : Int) : neD (nD a) (.int j) = some (.dat (.bl (!decide ((a : Int) = j)))) := x_neI _ _
@[simp] theorem x_neN2 (i : Int) (b : Nat) : neD (.int i) (nD b) = some (.dat (.bl (!decide (i = (b : Int))))) := x_neI _ _
@[simp] theorem x_neN3 (a b : Nat) : neD (nD a) (nD b) = some (.dat (.bl (!decide ((a : Int) = (b : Int))))) := x_neI _ _
@[simp] theorem x_intN (a : Nat) : intD (nD a) = some (.dat (nD a)) := id rfl
@[simp] theorem x_eqT (xs ys : List Nat) : eqD (tD xs) (tD ys) = some (.dat (.bl (decide (xs = ys)))) := eqs_nat.tup.eq (by decide) xs ys
@[simp] theorem x_neT (xs ys : List Nat) : neD (tD xs) (tD ys) = some (.dat (.bl (!decide (xs = ys)))) := eqs_nat.tup.ne (by decide) xs ys
@[simp] theorem x_neL (xs ys : List Nat) : neD (.lst (xs.map nD)) (.lst (ys.map nD)) = some (.dat (.bl (!decide (xs = ys)))) := eqs_nat.lst.ne (by decide) xs ys
@[simp] theorem x_neL0 (xs : List Nat) : neD (.lst (xs.map nD)) (.lst []) = some (.dat (.bl (!decide (xs = [])))) := x_neL xs []
@[simp] theorem x_lenTD (xs : List Nat) : lenD (tD xs) = some (.dat (nD xs.length)) := by simp [tD, nD]
@[simp] theorem x_lenRD (rs : List (List Nat)) : lenD (rsD rs) = some (.dat (nD rs.length)) := by simp [rsD, nD]
@[simp] theorem x_lenLD (xs : List Nat) : lenD (.lst (xs.map nD)) = some (.dat (nD xs.length)) := by simp [nD]
theorem atI_nat {α : Type} {xs : List α} {i : Nat} : L2.atI xs (i : Int) = xs[i]? := by
  unfold L2.atI ixN
  rw [if_pos (by omega)]
  by_cases h : i < xs.length
  · rw [if_pos (by omega)]; rfl
  · rw [if_neg (by omega), List.getElem?_eq_none (by omega)]; rfl
theorem ixT {xs : List Nat} {i : Nat} (h : i < xs.length) : ixD (tD xs) (nD i) = some (.dat (nD (Tn.ap xs i))) := by
  unfold tD nD
  simp only [ixD]
  rw [atI_nat, List.getElem?_map, Tn.ap_get? h]
  rfl
theorem ixTD {ds : List D} {i : Nat} {d : D} (h : ds[i]? = some d) : ixD (.tup ds) (nD i) = some (.dat d) := by
  unfold nD
  simp only [ixD]
  rw [atI_nat, h]
  rfl
theorem ixLD {ds : List D} {i : Nat} {d : D} (h : ds[i]? = some d) : ixD (.lst ds) (nD i) = some (.dat d) := by
  unfold nD
  simp only [ixD]
  rw [atI_nat, h]
  rfl
theorem ixN_nat {n i : Nat} (h : i < n) : L2.ixN n (i : Int) = some i := by
  unfold L2.ixN
  rw [if_pos (by omega), if_pos (by omega)]
  rfl
/-- list(range(n)) -/
theorem lrg0 (sa : SE) (s s1 : S) (j : Int) (h : sa s = .ok (.dat (.int j)) s1) (h1 : RgB 0 j) : sLRg1 sa s = .ok (.fr (rgD 0 j.toNat)) s1 := by
  unfold sLRg1
  rw [h]
  exact if_pos h1
theorem rgB {n : Nat} (h : n ≤ 1000) : RgB 0 (n : Int) := by
  unfold RgB line
  omega
theorem lrg1 {sa : SE} {s s1 : S} {n : Nat} (h : sa s = .ok (.dat (nD n)) s1) (hn : n ≤ 1000) : sLRg1 sa s = .ok (.fr ((List.range n).map nD)) s1 := by
  rw [← rgD_nD]
  exact lrg0 sa s s1 n h (rgB hn)
theorem rg0 (sa : SA) (s s1 : S) (j : Int) (h : sa s = .ok [.int j] s1) (h1 : -(2 ^ 62) ≤ j ∧ j < 2 ^ 62) : siRange1 sa s = .ok (rgD 0 j.toNat) s1 := by
  unfold siRange1
  rw [h]
  exact if_pos h1
theorem rg1 {sa : SA} {s s1 : S} {n : Nat} (h : sa s = .ok [nD n] s1) (hn : n ≤ 1000) : siRange1 sa s = .ok (rgD 0 n) s1 := rg0 sa s s1 n h (by omega)
end Eng

/-! pure side: runs by simp -/
namespace Eng
open PySem PySem.Spec PyProof.Rows L2 Evl
variable [Tb]
@[simp] theorem y_var (i : Nat) (s : S) : sVar i s = match s.env[i]? with
  | some (.val d) => .ok (.dat d) s
  | some (.own _) => .ok (.slot i) s
  | some .cup => .ok .cup s
  | _ => .bad := by unfold sVar; congr 1
@[simp] theorem y_frzS (i : Nat) (s : S) : frz (.slot i) s = match s.env[i]? with
  | some (.val d) => .ok d s
  | some (.own ds) => .ok (.lst ds) (setSl s i (.val (.lst ds)))
  | _ => .bad := by unfold frz; congr 1
@[simp] theorem y_peekS (i : Nat) (s : S) : peek (.slot i) s = match s.env[i]? with
  | some (.val d) => some d
  | some (.own ds) => some (.lst ds)
  | _ => none := by unfold peek; congr 1
@[simp] theorem y_mut (i : Nat) (f : List D → List D → Option (D × List D)) (sa : SA) (s : S) : sMut i f sa s = match s.env[i]? with
  | some (.own _) => (sa s).bind fun as s2 => (match s2.env[i]? with
    | some (.own ds) => (match f ds as with
      | some (r, es) => .ok (.dat r) (setSl s2 i (.own es))
      | none => .bad)
    | _ => .bad)
  | _ => .bad := by unfold sMut; congr 1
theorem y_app {ds : List D} {d : D} (h : ds.length < line) : fApp ds [d] = some (.non, ds ++ [d]) := by
  unfold fApp
  simp [h]
@[simp] theorem y_seq (a b : SS) (s : S) : sSeq a b s = (a s).bind fun o s1 => match o with
  | .next => b s1
  | o => .ok o s1 := id rfl
@[simp] theorem y_ifs (t : SB) (a b : SS) (s : S) : sIfS t a b s = (t s).bind fun k s1 => match k with
  | true => a s1
  | false => b s1 := id rfl
@[simp] theorem y_drop (se : SE) (s : S) : sDrop se s = (se s).bind fun _ s1 => .ok .next s1 := id rfl
@[simp] theorem y_ret (se : SE) (s : S) : sRet se s = (se s).bind fun w s1 => (frz w s1).bind fun d s2 => .ok (.ret d) s2 := id rfl
@[simp] theorem y_asg (i : Nat) (se : SE) (s : S) : sAsg i se s = (se s).bind fun w s1 => (stow w s1).bind fun sl s2 => .ok .next (setSl s2 i sl) := id rfl
@[simp] theorem y_op1 (f : D → Option Vw) (sa : SE) (s : S) : sOp1 f sa s = (sa s).bind fun w1 s1 => match peek w1 s1 with
  | some d1 => (match f d1 with
    | some w => .ok w s1
    | none => .bad)
  | _ => .bad := by unfold sOp1; congr 1
@[simp] theorem y_op2 (f : D → D → Option Vw) (sa sb : SE) (s : S) : sOp2 f sa sb s = (sa s).bind fun w1 s1 => (sb s1).bind fun w2 s2 => match peek w1 s2, peek w2 s2 with
  | some d1, some d2 => (match f d1 d2 with
    | some w => .ok w s2
    | none => .bad)
  | _, _ => .bad := by unfold sOp2; congr 1
@[simp] theorem y_b (se : SE) (s : S) : sB se s = (se s).bind fun w s1 => match w with
  | .dat (.bl b) => .ok b s1
  | _ => .bad := by unfold sB; congr 1
@[simp] theorem y_not (st : SB) (s : S) : sNot st s = (st s).bind fun b s1 => .ok (!b) s1 := id rfl
@[simp] theorem y_and (st su : SB) (s : S) : sAnd st su s = (st s).bind fun b s1 => match b with
  | true => su s1
  | false => .ok false s1 := id rfl
@[simp] theorem y_or (st su : SB) (s : S) : sOr st su s = (st s).bind fun b s1 => match b with
  | true => .ok true s1
  | false => su s1 := id rfl
@[simp] theorem y_v (st : SB) (s : S) : sV st s = (st s).bind fun b s1 => .ok (.dat (.bl b)) s1 := id rfl
@[simp] theorem y_if (st : SB) (sa sb : SE) (s : S) : sIf st sa sb s = (st s).bind fun b s1 => match b with
  | true => sa s1
  | false => sb s1 := id rfl
@[simp] theorem y_cons (sa : SE) (sr : SA) (s : S) : sCons sa sr s = (sa s).bind fun w s1 => (frz w s1).bind fun d s2 => (sr s2).bind fun ds s3 => .ok (d :: ds) s3 := id rfl
@[simp] theorem y_tup (sa : SA) (s : S) : sTup sa s = (sa s).bind fun ds s1 => if ds.length ≤ line then .ok (.dat (.tup ds)) s1 else .bad := id rfl
@[simp] theorem y_lst (sa : SA) (s : S) : sLst sa s = (sa s).bind fun ds s1 => if ds.length ≤ line then .ok (.fr ds) s1 else .bad := id rfl
@[simp] theorem y_call (f : FD) (sa : SA) (s : S) : sCall f sa s = (sa s).bind fun ds s1 => match f (0, 0, 0) ds with
  | .ok r _ => .ok (.dat r) s1
  | .exc x _ => .exc x s1
  | .bad => .bad := id rfl
@[simp] theorem y_callK (t : Bool) (f : FD) (sa : SA) (s : S) : sCallK t f sa s = (sa s).bind fun ds s1 => match f (0, 0, 0) (kwG t ds) with
  | .ok r _ => .ok (.dat r) s1
  | .exc x _ => .exc x s1
  | .bad => .bad := id rfl
@[simp] theorem y_kwF {α : Type} (ws : List α) : kwG false ws = ws := id rfl
@[simp] theorem y_kwT {α : Type} (ws : List α) : kwG true ws = ws.reverse := id rfl
@[simp] theorem y_set (e : List Sl) (c : Cup) (i : Nat) (sl : Sl) : setSl ⟨e, c⟩ i sl = ⟨e.set i sl, c⟩ := id rfl
@[simp] theorem y_for (si : SI) (sg : SG) (sb : SS) (s : S) : sFor si sg sb s = (si s).bind fun ds s1 => forL sg sb ds s1 := id rfl
@[simp] theorem y_seqI (se : SE) (s : S) : siSeq se s = (se s).bind fun w s1 => (frz w s1).bind fun d s2 => match dataOf d with
  | some ds => .ok ds s2
  | none => .bad := by unfold siSeq; congr 1
@[simp] theorem y_dataT (ds : List D) : dataOf (.tup ds) = some ds := id rfl
@[simp] theorem y_dataL (ds : List D) : dataOf (.lst ds) = some ds := id rfl
@[simp] theorem y_dataTD (xs : List Nat) : dataOf (tD xs) = some (xs.map nD) := id rfl
@[simp] theorem y_dataRD (xs : List (List Nat)) : dataOf (rsD xs) = some (xs.map tD) := id rfl
@[simp] theorem y_enum (se : SE) (s : S) : siEnum se s = (se s).bind fun w s1 => (frz w s1).bind fun d s2 => match dataOf d with
  | some ds => .ok (enD ds) s2
  | none => .bad := by unfold siEnum; congr 1
@[simp] theorem y_par (i j : Nat) (sa sb : SE) (s : S) : sPar i j sa sb s = (sa s).bind fun w1 s1 => (sb s1).bind fun w2 s2 => match slOf w1, slOf w2 with
  | some l1, some l2 => .ok .next (setSl (setSl s2 i l1) j l2)
  | _, _ => .bad := by unfold sPar; congr 1
@[simp] theorem y_slF (ds : List D) : slOf (.fr ds) = some (.own ds) := id rfl
@[simp] theorem y_slD (d : D) : slOf (.dat d) = some (.val d) := id rfl
@[simp] theorem y_ch (f g : D → D → Option Vw) (sa sb sc : SE) (s : S) : sCh f g sa sb sc s = (sa s).bind fun w1 s1 => (sb s1).bind fun w2 s2 => match peek w1 s2, peek w2 s2 with
  | some d1, some d2 => (match f d1 d2 with
    | some (.dat (.bl true)) => (sc s2).bind fun w3 s3 => (match peek w2 s3, peek w3 s3 with
      | some e2, some e3 => (match g e2 e3 with
        | some w => .ok w s3
        | none => .bad)
      | _, _ => .bad)
    | some (.dat (.bl false)) => .ok (.dat (.bl false)) s2
    | _ => .bad)
  | _, _ => .bad := by unfold sCh; congr 1
@[simp] theorem y_sl (se : SE) (so sh : SO) (s : S) : sSl se so sh s = (se s).bind fun w s1 => (so s1).bind fun lo s2 => (sh s2).bind fun hi s3 => match peek w s3 with
  | some d => (match slD d lo hi with
    | some r => .ok r s3
    | none => .bad)
  | none => .bad := by unfold sSl; congr 1
@[simp] theorem y_noP (s : S) : sNoP s = .ok none s := id rfl
@[simp] theorem y_part (se : SE) (s : S) : sPart se s = (se s).bind fun w s1 => match w with
  | .dat (.int i) => .ok (some i) s1
  | _ => .bad := by unfold sPart; congr 1
@[simp] theorem y_slT (ds : List D) (lo hi : Option Int) : slD (.tup ds) lo hi = some (.dat (.tup (cutL ds lo hi))) := id rfl
@[simp] theorem y_slL (ds : List D) (lo hi : Option Int) : slD (.lst ds) lo hi = some (.fr (cutL ds lo hi)) := id rfl
end Eng

/-! pure side: what the program's defs of turns answer -/
namespace Eng
namespace Pg
open PySem PySem.Spec PyProof.Rows L2 Evl Tn
variable [Tb]
theorem p_is_integer (c : Cup) (x a b : Int) : f_is_integer c [.int x, .int a, .int b] = .ok (.bl (decide (a ≤ x) && decide (x ≤ b))) (0, 0, 0) := by
  refine defP_ret (s' := ⟨[.val (.int x), .val (.int a), .val (.int b)], (0, 0, 0)⟩) rfl (by decide) ?_
  by_cases h1 : a ≤ x <;> by_cases h2 : x ≤ b <;> simp [ss_is_integer, h1, h2]
def okU (n : Int) : List Int → List Int → Bool
  | [], _ => true
  | x :: xs, seen => decide (0 ≤ x) && decide (x ≤ n - 1) && !decide (x ∈ seen) && okU n xs (x :: seen)
abbrev stU : SB := sB (sCall f_is_integer (sCons (sVar 3) (sCons (sC (.int 0)) (sCons (sOp2 subD (sVar 1) (sC (.int 1))) (sNil)))))
theorem stU_eq (a0 s2 : Sl) (n x : Int) : stU ⟨[a0, .val (.int n), s2, .val (.int x)], (0, 0, 0)⟩ = .ok (decide (0 ≤ x) && decide (x ≤ n - 1)) ⟨[a0, .val (.int n), s2, .val (.int x)], (0, 0, 0)⟩ := by
  simp [stU, p_is_integer]
theorem unlL_eq (a0 s2 : Sl) (n : Int) : ∀ (xs seen : List Int) (v3 : Sl), seen.length + xs.length < 4096 → ∃ s', unlL 3 stU (xs.map .int) seen ⟨[a0, .val (.int n), s2, v3], (0, 0, 0)⟩ = .ok (.ret (.bl (okU n xs seen))) s'
  | [], seen, v3, _ => ⟨_, rfl⟩
  | x :: xs, seen, v3, h => by
    have e : setSl ⟨[a0, .val (.int n), s2, v3], (0, 0, 0)⟩ 3 (.val (.int x)) = ⟨[a0, .val (.int n), s2, .val (.int x)], (0, 0, 0)⟩ := rfl
    rw [List.length_cons] at h
    simp only [List.map_cons, unlL, e, stU_eq]
    unfold okU
    by_cases h1 : 0 ≤ x
    · by_cases h2 : x ≤ n - 1
      · by_cases h3 : x ∈ seen
        · exact ⟨_, by simp [h1, h2, h3]; rfl⟩
        · obtain ⟨s', k⟩ := unlL_eq a0 s2 n xs (x :: seen) (.val (.int x)) (by rw [List.length_cons]; omega)
          refine ⟨s', ?_⟩
          simp only [h1, h2, h3, decide_true, decide_false, Bool.true_and, Bool.not_false, Bool.and_true, List.getElem?_cons_succ, List.getElem?_cons_zero, if_false]
          rw [if_pos (by omega)]
          exact k
      · exact ⟨_, by simp [h1, h2]; rfl⟩
    · exact ⟨_, by simp [h1]; rfl⟩
theorem nD_int (xs : List Nat) : xs.map nD = (xs.map Int.ofNat).map D.int := by rw [List.map_map]; rfl
theorem okU_true (n : Nat) : ∀ (xs : List Nat) (seen : List Int), (∀ x ∈ xs, x < n) → xs.Nodup → (∀ x ∈ xs, Int.ofNat x ∉ seen) → okU n (xs.map Int.ofNat) seen = true
  | [], _, _, _, _ => rfl
  | x :: xs, seen, h1, h2, h3 => by
    rw [List.map_cons]
    unfold okU
    have a := h1 x (.head _)
    have b := h3 x (.head _)
    rw [List.nodup_cons] at h2
    rw [okU_true n xs (Int.ofNat x :: seen) (fun y hy => h1 y (.tail _ hy)) h2.2 (fun y hy hm => by
      rcases List.mem_cons.mp hm with z | z
      · have : y = x := Int.ofNat.inj z
        exact h2.1 (this ▸ hy)
      · exact h3 y (.tail _ hy) z)]
    have c1 : (0 : Int) ≤ Int.ofNat x := Int.natCast_nonneg x
    have c2 : Int.ofNat x ≤ (n : Int) - 1 := by show (x : Int) ≤ (n : Int) - 1; omega
    simp only [c1, c2, b, decide_true, decide_false, Bool.not_false, Bool.and_true]
/-- of a list or a tuple of unlike places -/
theorem p_unlike (c : Cup) {d : D} {xs : List Nat} {n : Nat} (hd : dataOf d = some (xs.map nD)) (h : xs.length < 4096) (h1 : ∀ x ∈ xs, x < n) (h2 : xs.Nodup) : f_are_unlike_places c [d, nD n] = .ok (.bl true) (0, 0, 0) := by
  obtain ⟨s', k⟩ := unlL_eq (.val d) .no n (xs.map Int.ofNat) [] .no (by simpa using h)
  rw [okU_true n xs [] h1 h2 (fun _ _ => by simp)] at k
  refine defP_ret (s' := s') rfl (by decide) ?_
  rw [← k, ← nD_int]
  show ss_are_unlike_places ⟨[.val d, .val (nD n), .no, .no], (0, 0, 0)⟩ = _
  unfold ss_are_unlike_places sUnlG
  rw [if_pos ⟨by simp, by simp⟩]
  unfold sUnl
  simp [hd]
  rfl
theorem p_is_turn (c : Cup) {xs : List Nat} (T : IsTurn xs) : f_is_turn c [tD xs] = .ok (.bl true) (0, 0, 0) := by
  have e := p_unlike (0, 0, 0) (d := tD xs) (xs := xs) (n := xs.length) rfl (by have := T.hi; omega) T.lt T.nd
  have h1 : (1 : Int) ≤ (xs.length : Int) := by have := T.lo; omega
  have h2 : (xs.length : Int) ≤ 24 := by have := T.hi; omega
  have t1 : isiD "tuple" (tD xs) = some (.dat (.bl true)) := isi_tup_tuple _
  refine defP_ret (s' := ⟨[.val (tD xs)], (0, 0, 0)⟩) rfl (by decide) ?_
  simp [ss_is_turn, t1, nD, h1, h2]
  rw [show D.int (xs.length : Int) = nD xs.length from rfl, e]
  simp
@[simp] theorem p_check_turn (c : Cup) {xs : List Nat} (T : IsTurn xs) : f_check_turn c [tD xs] = .ok .non (0, 0, 0) := by
  refine defP_next (s' := ⟨[.val (tD xs)], (0, 0, 0)⟩) rfl (by decide) ?_
  simp [ss_check_turn, p_is_turn _ T]
theorem p_check_two (c : Cup) {xs ys : List Nat} (T : IsTurn xs) (U : IsTurn ys) (e : xs.length = ys.length) : f_check_two_turns c [tD xs, tD ys] = .ok .non (0, 0, 0) := by
  refine defP_next (s' := ⟨[.val (tD xs), .val (tD ys)], (0, 0, 0)⟩) rfl (by decide) ?_
  simp [ss_check_two_turns, p_check_turn _ T, p_check_turn _ U, nD, e]
theorem p_comp (xs ys : List Nat) (hx : xs.length ≤ 24) (h : ∀ x ∈ xs, x < ys.length) : sLc (siSeq (sVar 0)) (sgName 2) (sYes) (sOp2 ixD (sVar 1) (sVar 2)) [2] ⟨[.val (tD xs), .val (tD ys), .no], (0, 0, 0)⟩ = .ok (.fr ((thenN xs ys).map nD)) ⟨[.val (tD xs), .val (tD ys), .no], (0, 0, 0)⟩ := by
  have l := lcL_map (i := 2) (se := sOp2 ixD (sVar 1) (sVar 2)) (g := fun d => match d with | .int x => nD (ys.getD x.toNat 0) | d => d) (s := ⟨[.val (tD xs), .val (tD ys), .no], (0, 0, 0)⟩) rfl rfl (xs.map nD) [] (fun d hd => by
    obtain ⟨x, hx, rfl⟩ := List.mem_map.mp hd
    simp [ixT (h x hx)]
    rfl) (by simp [line]; omega)
  unfold sLc
  simp
  refine l.trans ?_
  rw [List.nil_append, List.map_map]
  unfold thenN
  rw [List.map_map]
  rfl
@[simp] theorem p_one_then (c : Cup) {xs ys : List Nat} (T : IsTurn xs) (e : xs.length = ys.length) : f_one_then c [tD xs, tD ys] = .ok (tD (thenN xs ys)) (0, 0, 0) := by
  refine defP_ret (s' := ⟨[.val (tD xs), .val (tD ys), .no], (0, 0, 0)⟩) rfl (by decide) ?_
  simp [ss_one_then, p_comp xs ys T.hi (fun x hx => e ▸ T.lt x hx)]
  rfl
theorem p_then (c : Cup) {xs ys : List Nat} (T : IsTurn xs) (U : IsTurn ys) (e : xs.length = ys.length) : f_then c [tD xs, tD ys] = .ok (tD (thenN xs ys)) (0, 0, 0) := by
  refine defP_ret (s' := ⟨[.val (tD xs), .val (tD ys)], (0, 0, 0)⟩) rfl (by decide) ?_
  simp [ss_then, p_check_two _ T U e, p_one_then _ T e]
theorem mulRep {d : D} {n : Nat} (h : n ≤ 1000) : mulD (.lst [d]) (nD n) = some (.fr (List.replicate n d)) := by
  show (if [d].length * (n : Int).toNat ≤ line ∧ -1000000 ≤ (n : Int) ∧ (n : Int) ≤ 1000000 then some (Vw.fr (List.replicate (n : Int).toNat [d]).flatten) else none) = _
  rw [if_pos ⟨by simp [line]; omega, by omega, by omega⟩]
  simp
theorem p_led_back (c : Cup) {xs : List Nat} (T : IsTurn xs) : f_led_back c [tD xs] = .ok (tD (backN xs)) (0, 0, 0) := by
  have hi := T.hi
  obtain ⟨s', e, v2, v3, hs⟩ := for_enum (f := nD) (i := 2) (j := 3) (sb := sSetIx 1 (sVar 2) (sVar 3)) (fun k s => ∃ v2 v3, s = ⟨[.val (tD xs), .own ((setAll (List.replicate xs.length 0) 0 (xs.take k)).map nD), v2, v3], (0, 0, 0)⟩) (xs := xs)
    (s := ⟨[.val (tD xs), .own ((List.replicate xs.length 0).map nD), .no, .no], (0, 0, 0)⟩) ⟨.no, .no, rfl⟩ (fun k x s hx ⟨v2, v3, hs⟩ => by
      subst hs
      have hlt : x < xs.length := T.lt x (List.mem_of_getElem? hx)
      have z : ixN ((setAll (List.replicate xs.length 0) 0 (xs.take k)).map nD).length (x : Int) = some x := ixN_nat (by rw [List.length_map, setAll_len, List.length_replicate]; exact hlt)
      refine ⟨_, ?_, .val (nD k), .val (nD x), rfl⟩
      have ht : setAll (List.replicate xs.length 0) 0 (xs.take (k + 1)) = (setAll (List.replicate xs.length 0) 0 (xs.take k)).set x k := by
        have hk : k < xs.length := (List.getElem?_eq_some_iff.mp hx).1
        have : ∀ (l : List Nat) (own : List Nat) (j i : Nat) (y : Nat), l[i]? = some y → setAll own j (l.take (i + 1)) = (setAll own j (l.take i)).set y (j + i) := by
          intro l
          induction l with
          | nil => intro own j i y h; simp at h
          | cons a l ih =>
            intro own j i y h
            cases i with
            | zero =>
              have : a = y := by simpa using h
              subst this
              simp [setAll]
            | succ i =>
              have h' : l[i]? = some y := by simpa using h
              rw [List.take_succ_cons, List.take_succ_cons]
              show setAll (own.set a j) (j + 1) (l.take (i + 1)) = (setAll (own.set a j) (j + 1) (l.take i)).set y _
              rw [ih _ _ _ _ h']
              congr 1
              omega
        have := this xs (List.replicate xs.length 0) 0 k x hx
        rwa [Nat.zero_add] at this
      rw [ht]
      unfold sSetIx
      simp [nD] at z ⊢
      rw [z])
  rw [List.take_length] at hs
  refine defP_ret (s' := s') rfl (by decide) ?_
  simp [ss_led_back, mulRep (d := .int 0) (n := xs.length) (by omega), line]
  have e' : forL (sgTwo 2 3) (sSetIx 1 (sVar 2) (sVar 3)) (enD (xs.map nD)) ⟨[.val (tD xs), .own (List.replicate xs.length (D.int 0)), .no, .no], (0, 0, 0)⟩ = .ok .next s' := by
    rw [← e]
    congr 2
    simp [nD]
  rw [e', hs]
  simp
  rfl
theorem p_renamed_by (c : Cup) {p s : List Nat} (P : IsTurn p) (S : IsTurn s) (e : p.length = s.length) : f_renamed_by c [tD p, tD s] = .ok (tD (cjN p s)) (0, 0, 0) := by
  refine defP_ret (s' := ⟨[.val (tD p), .val (tD s)], (0, 0, 0)⟩) rfl (by decide) ?_
  simp [ss_renamed_by, p_led_back _ P, p_one_then _ P.back (show (backN p).length = s.length by rw [back_len]; exact e), p_one_then _ (P.back.then S (show (backN p).length = s.length by rw [back_len]; exact e)) (show (thenN (backN p) s).length = p.length by rw [then_len, back_len])]
  rfl
theorem p_turned_by (c : Cup) {p s : List Nat} (P : IsTurn p) (S : IsTurn s) (e : p.length = s.length) : f_turned_by c [tD p, tD s] = .ok (tD (cjN p s)) (0, 0, 0) := by
  refine defP_ret (s' := ⟨[.val (tD p), .val (tD s)], (0, 0, 0)⟩) rfl (by decide) ?_
  simp [ss_turned_by, p_check_two _ P S e, p_renamed_by _ P S e]
theorem p_back (c : Cup) {xs : List Nat} (T : IsTurn xs) : f_back c [tD xs] = .ok (tD (backN xs)) (0, 0, 0) := by
  refine defP_ret (s' := ⟨[.val (tD xs)], (0, 0, 0)⟩) rfl (by decide) ?_
  simp [ss_back, p_check_turn _ T, p_led_back _ T]
abbrev gwE : SE := sOp2 eqD (sCall f_one_then (sCons (sVar 0) (sCons (sVar 2) (sNil)))) (sCall f_one_then (sCons (sVar 2) (sCons (sVar 0) (sNil))))
theorem gw_lc {xs ys : List Nat} (T : IsTurn xs) (U : IsTurn ys) (e : xs.length = ys.length) : lcL (sgName 2) sYes gwE [2] [tD ys] [] ⟨[.val (tD xs), .val (.lst [tD ys]), .no], (0, 0, 0)⟩ = .ok (.fr [.bl (decide (thenN xs ys = thenN ys xs))]) ⟨[.val (tD xs), .val (.lst [tD ys]), .no], (0, 0, 0)⟩ := by
  have l := lcL_map (i := 2) (se := gwE) (g := fun _ => .bl (decide (thenN xs ys = thenN ys xs))) (s := ⟨[.val (tD xs), .val (.lst [tD ys]), .no], (0, 0, 0)⟩) rfl rfl [tD ys] [] (fun d hd => by
    obtain rfl := List.mem_singleton.mp hd
    simp [p_one_then _ T e, p_one_then _ U e.symm]) (by simp [line])
  exact l
theorem p_goes_with (c : Cup) {xs ys : List Nat} (T : IsTurn xs) (U : IsTurn ys) (e : xs.length = ys.length) : f_goes_with c [tD xs, .lst [tD ys]] = .ok (.bl (decide (thenN xs ys = thenN ys xs))) (0, 0, 0) := by
  refine defP_ret (s' := ⟨[.val (tD xs), .val (.lst [tD ys]), .no], (0, 0, 0)⟩) rfl (by decide) ?_
  have src : siSeq (sVar 1) ⟨[.val (tD xs), .val (.lst [tD ys]), .no], (0, 0, 0)⟩ = .ok [tD ys] ⟨[.val (tD xs), .val (.lst [tD ys]), .no], (0, 0, 0)⟩ := by simp
  have lc : sLc (siSeq (sVar 1)) (sgName 2) (sYes) gwE [2] ⟨[.val (tD xs), .val (.lst [tD ys]), .no], (0, 0, 0)⟩ = .ok (.fr [.bl (decide (thenN xs ys = thenN ys xs))]) ⟨[.val (tD xs), .val (.lst [tD ys]), .no], (0, 0, 0)⟩ := by
    unfold sLc
    rw [src]
    exact gw_lc T U e
  have al : allD (.lst [.bl (decide (thenN xs ys = thenN ys xs))]) = some (.dat (.bl (decide (thenN xs ys = thenN ys xs)))) := by
    show some (Vw.dat (D.bl ([decide (thenN xs ys = thenN ys xs)].all id))) = _
    simp
  show ss_goes_with ⟨[.val (tD xs), .val (.lst [tD ys]), .no], (0, 0, 0)⟩ = _
  rw [show ss_goes_with = sRet (sOp1 allD (sLc (siSeq (sVar 1)) (sgName 2) (sYes) gwE [2])) from rfl, y_ret, y_op1, lc]
  simp only [x_bind, x_peekF, al, x_frz]
theorem p_commutes (c : Cup) {xs ys : List Nat} (T : IsTurn xs) (U : IsTurn ys) (e : xs.length = ys.length) : f_commutes c [tD xs, tD ys] = .ok (.bl (decide (thenN xs ys = thenN ys xs))) (0, 0, 0) := by
  refine defP_ret (s' := ⟨[.val (tD xs), .val (tD ys)], (0, 0, 0)⟩) rfl (by decide) ?_
  simp [ss_commutes, p_check_two _ T U e, p_goes_with _ T U e, line]
theorem p_l_still (c : Cup) {n : Nat} (h : n ≤ 1000) : f_l_still c [nD n] = .ok (tD (still n)) (0, 0, 0) := by
  refine defP_ret (s' := ⟨[.val (nD n)], (0, 0, 0)⟩) rfl (by decide) ?_
  simp [ss_l_still, lrg1 (sa := sVar 0) (s := ⟨[.val (nD n)], (0, 0, 0)⟩) (s1 := ⟨[.val (nD n)], (0, 0, 0)⟩) (n := n) rfl h]
  rfl
end Pg
end Eng

/-! pure side: the rings of a turn -/
namespace Eng
namespace Pg
open PySem PySem.Spec PyProof.Rows L2 Evl Tn
variable [Tb]
def metB (xs : List Nat) (k y : Nat) : Bool := (List.range k).any fun x => decide (y ∈ ring xs x)
def foundN (xs : List Nat) (k : Nat) : List (List Nat) := ((List.range k).filter (isMin xs)).map (ring xs)
theorem metB_iff {xs : List Nat} {k y : Nat} : metB xs k y = true ↔ ∃ x, x < k ∧ y ∈ ring xs x := by simp [metB]
theorem metB_succ (xs : List Nat) (k y : Nat) : metB xs (k + 1) y = (metB xs k y || decide (y ∈ ring xs k)) := by simp [metB, List.range_succ]
def metL (n : Nat) (f : Nat → Bool) : List D := (List.range n).map fun y => D.bl (f y)
theorem metL_len (n : Nat) (f : Nat → Bool) : (metL n f).length = n := by simp [metL]
theorem metL_get {n : Nat} {f : Nat → Bool} {y : Nat} (h : y < n) : (metL n f)[y]? = some (.bl (f y)) := by simp [metL, h]
theorem metL_set {n : Nat} {f : Nat → Bool} {p : Nat} : (metL n f).set p (.bl true) = metL n fun y => f y || decide (y = p) := by
  apply List.ext_getElem?
  intro i
  rw [List.getElem?_set]
  by_cases h : i < n
  · by_cases e : p = i
    · subst e
      simp [metL, h]
    · have e' : ¬ i = p := fun z => e z.symm
      simp [metL, h, e, e']
  · have : ¬ p = i ∨ p = i := by omega
    rcases this with e | e
    · simp [metL, h, e]
    · subst e; simp [metL, h]
theorem metL_congr {n : Nat} {f g : Nat → Bool} (h : ∀ y, y < n → f y = g y) : metL n f = metL n g := List.map_congr_left fun y hy => by rw [h y (List.mem_range.mp hy)]
section
variable {xs : List Nat}
/-- the first so many of a ring -/
def someR (xs : List Nat) (x i : Nat) : List Nat := (List.range i).map fun k => it xs k x
theorem someR_succ (xs : List Nat) (x i : Nat) : someR xs x (i + 1) = someR xs x i ++ [it xs i x] := by simp [someR, List.range_succ]
theorem someR_per (xs : List Nat) (x : Nat) : someR xs x (per xs x) = ring xs x := rfl
theorem someR_new (T : IsTurn xs) {x i : Nat} (h : x < xs.length) (hi : i < per xs x) : it xs i x ∉ someR xs x i := by
  intro m
  obtain ⟨k, hk, e⟩ := List.mem_map.mp m
  have hk' := List.mem_range.mp hk
  have e2 : it xs k (it xs (i - k) x) = it xs k x := by rw [← it_add, show k + (i - k) = i by omega]; exact e.symm
  exact per_min (by omega) (by omega) (T.it_inj (T.it_lt h _) h k e2)
theorem met_new (T : IsTurn xs) {x i : Nat} (h : x < xs.length) (hm : isMin xs x = true) : metB xs x (it xs i x) = false := by
  cases e : metB xs x (it xs i x) with
  | false => rfl
  | true =>
    obtain ⟨y, hy, m⟩ := metB_iff.mp e
    have h1 : it xs i x ∈ ring xs x := (T.mem_ring' h).mpr ⟨i, rfl⟩
    have h2 := T.ring_trans (by omega) m (T.ring_symm h h1)
    have := isMin_iff.mp hm y (T.ring_symm (by omega) h2)
    omega
theorem met_old (T : IsTurn xs) {x : Nat} (h : x < xs.length) (hm : isMin xs x = false) : metB xs x x = true := by
  obtain ⟨y, hy, m⟩ := (T.not_min h).mp hm
  exact metB_iff.mpr ⟨y, hy, m⟩
theorem met_same (T : IsTurn xs) {x : Nat} (h : x < xs.length) (hm : isMin xs x = false) (y : Nat) : metB xs (x + 1) y = metB xs x y := by
  rw [metB_succ]
  cases e : metB xs x y with
  | true => rfl
  | false =>
    obtain ⟨z, hz, m⟩ := (T.not_min h).mp hm
    have : y ∉ ring xs x := fun q => by
      have := metB_iff.mpr ⟨z, hz, T.ring_trans (by omega) m q⟩
      rw [this] at e
      cases e
    simp [this]
theorem found_succ (xs : List Nat) (k : Nat) : foundN xs (k + 1) = foundN xs k ++ if isMin xs k then [ring xs k] else [] := by
  unfold foundN
  rw [List.range_succ, List.filter_append, List.map_append]
  cases e : isMin xs k <;> simp [e]
theorem found_all (xs : List Nat) : foundN xs xs.length = ringsN xs := rfl
theorem found_len (xs : List Nat) (k : Nat) : (foundN xs k).length ≤ k := by
  unfold foundN
  rw [List.length_map]
  exact Nat.le_trans (List.length_filter_le _ _) (by simp)
abbrev wT : SB := sNot (sB (sOp2 ixD (sVar 1) (sVar 5)))
abbrev wB : SS := sSeq (sSetIx 1 (sC (.bl true)) (sVar 5)) (sSeq (sDrop (sMut 4 fApp (sCons (sVar 5) (sNil)))) (sAsg 5 (sOp2 ixD (sVar 0) (sVar 5))))
def wS (xs : List Nat) (x : Nat) (fo : List D) (v3 : Sl) (i : Nat) : S := ⟨[.val (tD xs), .own (metL xs.length fun y => metB xs x y || decide (y ∈ someR xs x i)), .own fo, v3, .own ((someR xs x i).map nD), .val (nD (it xs i x))], (0, 0, 0)⟩
theorem while_ring (T : IsTurn xs) {x : Nat} (h : x < xs.length) (hm : isMin xs x = true) (fo : List D) (v3 : Sl) {N : Nat} (hN : 100 < N) : whileL wT wB N (wS xs x fo v3 0) = .ok .next (wS xs x fo v3 (per xs x)) := by
  have hp := T.per_le h
  have hn := T.hi
  obtain ⟨s', e, rfl⟩ := while_inv (t := wT) (sb := wB) (fun i s => s = wS xs x fo v3 i) (fun s => s = wS xs x fo v3 (per xs x)) (per xs x) (fun i s hi hs => by
    subst hs
    have hl := T.it_lt h i
    have e1 : (fun y => metB xs x y || decide (y ∈ someR xs x i)) (it xs i x) = false := by
      simp only [met_new T h hm, Bool.false_or, decide_eq_false_iff_not]
      exact someR_new T h hi
    simp only at e1
    refine ⟨wS xs x fo v3 i, wS xs x fo v3 (i + 1), ?_, ?_, rfl⟩
    · have := ixLD (metL_get (f := fun y => metB xs x y || decide (y ∈ someR xs x i)) hl)
      rw [e1] at this
      simp [wT, wS, this]
    · have z : ixN xs.length ((it xs i x : Nat) : Int) = some (it xs i x) := ixN_nat hl
      have hlen : ((someR xs x i).map nD).length < line := by
        have : (someR xs x i).length = i := by simp [someR]
        rw [List.length_map, this]
        unfold line
        omega
      have ix := ixT hl
      unfold wB sSetIx wS
      simp [nD, metL_len] at z ix ⊢
      rw [z]
      simp [metL_set, y_app hlen, ix]
      refine ⟨?_, ?_, rfl⟩
      · refine metL_congr fun y hy => ?_
        rw [someR_succ]
        by_cases a : y ∈ someR xs x i <;> by_cases b : y = it xs i x <;> simp [a, b]
      · rw [someR_succ, List.map_append]
        rfl) (fun s hs => by
    subst hs
    refine ⟨_, ?_, rfl⟩
    have hx : it xs (per xs x) x = x := T.it_per h
    have e1 : (fun y => metB xs x y || decide (y ∈ someR xs x (per xs x))) x = true := by
      simp only [someR_per, self_mem_ring, decide_true, Bool.or_true]
    simp only at e1
    have := ixLD (metL_get (f := fun y => metB xs x y || decide (y ∈ someR xs x (per xs x))) h)
    rw [e1] at this
    simp [wT, wS, hx, this]) 0 N (wS xs x fo v3 0) (Nat.zero_le _) (by omega) rfl
  exact e
def rrB (N : Nat) : SS := sSeq (sAsg 4 (sLst (sNil))) (sSeq (sAsg 5 (sVar 3)) (sSeq (whileL wT wB N) (sIfS (sB (sOp2 gtD (sOp1 lenD (sVar 4)) (sC (.int 0)))) (sDrop (sMut 2 fApp (sCons (sOp1 tupleD (sVar 4)) (sNil)))) (sNext))))
def rr (N : Nat) : SS := sSeq (sAsg 1 (sOp2 mulD (sLst (sCons (sC (.bl false)) (sNil))) (sOp1 lenD (sVar 0)))) (sSeq (sAsg 2 (sLst (sNil))) (sSeq (sFor (siRange1 (sCons (sOp1 lenD (sVar 0)) (sNil))) (sgName 3) (rrB N)) (sRet (sOp1 tupleD (sVar 2)))))
theorem rr_eq : ss_rings_in = rr 100000 := rfl
def rS (xs : List Nat) (k : Nat) (v3 v4 v5 : Sl) : S := ⟨[.val (tD xs), .own (metL xs.length (metB xs k)), .own ((foundN xs k).map tD), v3, v4, v5], (0, 0, 0)⟩
theorem found_line {x : Nat} (h : x < 1000) : ((foundN xs x).map tD).length < line := by
  rw [List.length_map]
  have := found_len xs x
  unfold line
  omega
theorem rr_new (T : IsTurn xs) {N : Nat} (hN : 100 < N) {x : Nat} (hx : x < xs.length) (hm : isMin xs x = true) (v4 v5 : Sl) : rrB N (rS xs x (.val (nD x)) v4 v5) = .ok .next (rS xs (x + 1) (.val (nD x)) (.own ((ring xs x).map nD)) (.val (nD (it xs (per xs x) x)))) := by
  have hi := T.hi
  have hfl : ((foundN xs x).map tD).length < line := found_line (by omega)
  have w := while_ring T hx hm ((foundN xs x).map tD) (.val (nD x)) hN
  have e0 : wS xs x ((foundN xs x).map tD) (.val (nD x)) 0 = ⟨[.val (tD xs), .own (metL xs.length (metB xs x)), .own ((foundN xs x).map tD), .val (nD x), .own [], .val (nD x)], (0, 0, 0)⟩ := by
    simp [wS, someR, it]
  rw [e0] at w
  have pp := per_pos xs x
  unfold rrB rS
  simp
  rw [w]
  have hl0' : 0 < (ring xs x).length := by rw [ring_len]; exact pp
  simp [wS, someR_per, hl0', y_app hfl]
  refine ⟨metL_congr fun y hy => (metB_succ xs x y).symm, ?_⟩
  rw [found_succ, hm]
  simp [tD]
theorem rr_old (T : IsTurn xs) {N : Nat} (hN : 100 < N) {x : Nat} (hx : x < xs.length) (hm : isMin xs x = false) (v4 v5 : Sl) : rrB N (rS xs x (.val (nD x)) v4 v5) = .ok .next (rS xs (x + 1) (.val (nD x)) (.own []) (.val (nD x))) := by
  have t0 : whileL wT wB N ⟨[.val (tD xs), .own (metL xs.length (metB xs x)), .own ((foundN xs x).map tD), .val (nD x), .own [], .val (nD x)], (0, 0, 0)⟩ = .ok .next ⟨[.val (tD xs), .own (metL xs.length (metB xs x)), .own ((foundN xs x).map tD), .val (nD x), .own [], .val (nD x)], (0, 0, 0)⟩ := by
    have := ixLD (metL_get (f := metB xs x) hx)
    rw [met_old T hx hm] at this
    obtain ⟨N, rfl⟩ : ∃ M, N = M + 1 := ⟨N - 1, by omega⟩
    unfold whileL
    simp [wT, this]
  unfold rrB rS
  simp
  rw [t0]
  simp
  refine ⟨metL_congr fun y hy => (met_same T hx hm y).symm, ?_⟩
  rw [found_succ, hm]
  simp
theorem rr_for (T : IsTurn xs) {N : Nat} (hN : 100 < N) : ∃ s', forL (sgName 3) (rrB N) (rgD 0 xs.length) (rS xs 0 .no .no .no) = .ok .next s' ∧ ∃ v3 v4 v5, s' = rS xs xs.length v3 v4 v5 :=
  for_range (i := 3) (sb := rrB N) (fun k s => ∃ v3 v4 v5, s = rS xs k v3 v4 v5) (n := xs.length) ⟨.no, .no, .no, rfl⟩ (fun x s hx ⟨v3, v4, v5, hs⟩ => by
      subst hs
      cases hm : isMin xs x with
      | true => exact ⟨_, rr_new T hN hx hm v4 v5, _, _, _, rfl⟩
      | false => exact ⟨_, rr_old T hN hx hm v4 v5, _, _, _, rfl⟩)
theorem rS_zero (xs : List Nat) (v3 v4 v5 : Sl) : rS xs 0 v3 v4 v5 = ⟨[.val (tD xs), .own (List.replicate xs.length (D.bl false)), .own [], v3, v4, v5], (0, 0, 0)⟩ := by
  have e1 : metL xs.length (metB xs 0) = List.replicate xs.length (D.bl false) := by
    rw [List.eq_replicate_iff]
    refine ⟨metL_len _ _, fun b hb => ?_⟩
    obtain ⟨y, _, rfl⟩ := List.mem_map.mp hb
    simp [metB]
  unfold rS
  rw [e1]
  rfl
theorem seq_ok {a b : SS} {s s1 : S} {r : Res Out} (h : a s = .ok .next s1) (h2 : b s1 = r) : sSeq a b s = r := by
  unfold sSeq
  rw [h]
  exact h2
theorem for_ok {si : SI} {sg : SG} {sb : SS} {s s1 : S} {ds : List D} {r : Res Out} (h : si s = .ok ds s1) (h2 : forL sg sb ds s1 = r) : sFor si sg sb s = r := by
  unfold sFor
  rw [h]
  exact h2
theorem rr_run (T : IsTurn xs) {N : Nat} (hN : 100 < N) : ∃ s', rr N ⟨[.val (tD xs), .no, .no, .no, .no, .no], (0, 0, 0)⟩ = .ok (.ret (rsD (ringsN xs))) s' := by
  have hi := T.hi
  obtain ⟨s', e, v3, v4, v5, hs⟩ := rr_for T hN
  subst hs
  refine ⟨rS xs xs.length v3 v4 v5, ?_⟩
  rw [rS_zero] at e
  have m := mulRep (d := .bl false) (n := xs.length) (by omega)
  refine seq_ok (s1 := ⟨[.val (tD xs), .own (List.replicate xs.length (D.bl false)), .no, .no, .no, .no], (0, 0, 0)⟩) ?_ ?_
  · simp [m, line]
  refine seq_ok (s1 := ⟨[.val (tD xs), .own (List.replicate xs.length (D.bl false)), .own [], .no, .no, .no], (0, 0, 0)⟩) ?_ ?_
  · simp
  refine seq_ok (for_ok (rg1 (n := xs.length) ?_ (by omega)) e) ?_
  · simp
  · unfold rS
    simp [found_all]
    rfl
theorem p_rings_in (c : Cup) (T : IsTurn xs) : f_rings_in c [tD xs] = .ok (rsD (ringsN xs)) (0, 0, 0) := by
  obtain ⟨s', e⟩ := rr_run T (N := 100000) (by decide)
  rw [← rr_eq] at e
  exact defP_ret rfl (by decide) e
theorem p_rings (c : Cup) (T : IsTurn xs) : f_rings c [tD xs] = .ok (rsD (ringsN xs)) (0, 0, 0) := by
  refine defP_ret (s' := ⟨[.val (tD xs)], (0, 0, 0)⟩) rfl (by decide) ?_
  simp [ss_rings, p_check_turn _ T, p_rings_in _ T]
end
end Pg
end Eng

/-! pure side: the law's own rings; rings led along -/
namespace Eng
namespace Pg
open PySem PySem.Spec PyProof.Rows L2 Evl Tn
variable [Tb]
theorem mem_ofNat {x : Nat} {G : List Nat} : ((x : Int) ∈ G.map Int.ofNat) ↔ x ∈ G := by
  rw [List.mem_map]
  exact ⟨fun ⟨y, hy, e⟩ => by have : y = x := Int.ofNat.inj e; rwa [← this], fun h => ⟨x, h, rfl⟩⟩
theorem in_nD (x : Nat) (G : List Nat) : in? (nD x) (.lst (G.map nD)) = some (decide (x ∈ G)) := by
  rw [nD_int]
  unfold nD
  simp only [in?, intsOf_map, Option.map_some, mem_ofNat]
theorem notIn_nD (x : Nat) (G : List Nat) : notInD (nD x) (.lst (G.map nD)) = some (.dat (.bl (!decide (x ∈ G)))) := by
  unfold notInD
  rw [in_nD]
  rfl
section
variable {xs : List Nat}
abbrev lT : SB := sB (sOp2 notInD (sVar 5) (sVar 3))
abbrev lB : SS := sSeq (sDrop (sMut 3 fApp (sCons (sVar 5) (sNil)))) (sSeq (sDrop (sMut 4 fApp (sCons (sVar 5) (sNil)))) (sAsg 5 (sOp2 ixD (sVar 0) (sVar 5))))
def lS (xs : List Nat) (x : Nat) (G : List Nat) (v1 : Sl) (fo : List D) (i : Nat) : S := ⟨[.val (tD xs), v1, .own fo, .own ((G ++ someR xs x i).map nD), .own ((someR xs x i).map nD), .val (nD (it xs i x))], (0, 0, 0)⟩
theorem someR_len (xs : List Nat) (x i : Nat) : (someR xs x i).length = i := by simp [someR]
theorem while_loop (T : IsTurn xs) {x : Nat} (h : x < xs.length) (hm : isMin xs x = true) {G : List Nat} (hG : ∀ y, y ∈ G ↔ metB xs x y = true) (hl : G.length ≤ 1000) (fo : List D) (v1 : Sl) {N : Nat} (hN : 100 < N) : whileL lT lB N (lS xs x G v1 fo 0) = .ok .next (lS xs x G v1 fo (per xs x)) := by
  have hp := T.per_le h
  have hn := T.hi
  obtain ⟨s', e, rfl⟩ := while_inv (t := lT) (sb := lB) (fun i s => s = lS xs x G v1 fo i) (fun s => s = lS xs x G v1 fo (per xs x)) (per xs x) (fun i s hi hs => by
    subst hs
    have hlt := T.it_lt h i
    have nin : it xs i x ∉ G ++ someR xs x i := by
      rw [List.mem_append]
      rintro (m | m)
      · have := (hG _).mp m
        rw [met_new T h hm] at this
        cases this
      · exact someR_new T h hi m
    refine ⟨lS xs x G v1 fo i, lS xs x G v1 fo (i + 1), ?_, ?_, rfl⟩
    · have := notIn_nD (it xs i x) (G ++ someR xs x i)
      simp only [nin, decide_false, Bool.not_false] at this
      unfold lT lS
      simp only [y_b, y_op2, y_var, List.getElem?_cons_succ, List.getElem?_cons_zero, x_bind, x_peek, y_peekS, this]
    · have a1 : ((G ++ someR xs x i).map nD).length < line := by rw [List.length_map, List.length_append, someR_len]; unfold line; omega
      have a2 : ((someR xs x i).map nD).length < line := by rw [List.length_map, someR_len]; unfold line; omega
      have e2 : (G ++ someR xs x (i + 1)).map nD = (G ++ someR xs x i).map nD ++ [nD (it xs i x)] := by rw [someR_succ]; simp
      have e3 : (someR xs x (i + 1)).map nD = (someR xs x i).map nD ++ [nD (it xs i x)] := by rw [someR_succ]; simp
      unfold lB lS
      simp only [y_seq, y_drop, y_mut, y_var, y_cons, x_nil, x_frz, List.getElem?_cons_succ, List.getElem?_cons_zero, x_bind, y_app a1, y_app a2, y_set, List.set_cons_succ, List.set_cons_zero, y_asg, y_op2, x_peek, ixT hlt, x_stow, e2, e3]
      rfl) (fun s hs => by
    subst hs
    refine ⟨_, ?_, rfl⟩
    have hx : it xs (per xs x) x = x := T.it_per h
    have nin : x ∈ G ++ someR xs x (per xs x) := List.mem_append.mpr (.inr (by rw [someR_per]; exact self_mem_ring xs x))
    have := notIn_nD x (G ++ someR xs x (per xs x))
    simp only [nin, decide_true, Bool.not_true] at this
    unfold lT lS
    simp only [hx, y_b, y_op2, y_var, List.getElem?_cons_succ, List.getElem?_cons_zero, x_bind, x_peek, y_peekS, this]) 0 N (lS xs x G v1 fo 0) (Nat.zero_le _) (by omega) rfl
  exact e
def llB (N : Nat) : SS := sSeq (sPar 4 5 (sLst (sNil)) (sVar 1)) (sSeq (whileL lT lB N) (sIfS (sB (sOp2 neD (sVar 4) (sLst (sNil)))) (sDrop (sMut 2 fApp (sCons (sOp1 tupleD (sVar 4)) (sNil)))) (sNext)))
def ll (N : Nat) : SS := sSeq (sPar 2 3 (sLst (sNil)) (sLst (sNil))) (sSeq (sFor (siRange1 (sCons (sOp1 lenD (sVar 0)) (sNil))) (sgName 1) (llB N)) (sRet (sOp1 tupleD (sVar 2))))
theorem ll_eq : ss_l_loops = ll 100000 := rfl
theorem ll_step (T : IsTurn xs) {N : Nat} (hN : 100 < N) {x : Nat} (hx : x < xs.length) {G : List Nat} (hG : ∀ y, y ∈ G ↔ metB xs x y = true) (hl : G.length ≤ 24 * x) (v4 v5 : Sl) :
    ∃ (G' : List Nat) (v4' v5' : Sl), (∀ y, y ∈ G' ↔ metB xs (x + 1) y = true) ∧ G'.length ≤ 24 * (x + 1) ∧ llB N ⟨[.val (tD xs), .val (nD x), .own ((foundN xs x).map tD), .own (G.map nD), v4, v5], (0, 0, 0)⟩ = .ok .next ⟨[.val (tD xs), .val (nD x), .own ((foundN xs (x + 1)).map tD), .own (G'.map nD), v4', v5'], (0, 0, 0)⟩ := by
  have hi := T.hi
  have hfl : ((foundN xs x).map tD).length < line := found_line (by omega)
  have e1 : sPar 4 5 (sLst (sNil)) (sVar 1) ⟨[.val (tD xs), .val (nD x), .own ((foundN xs x).map tD), .own (G.map nD), v4, v5], (0, 0, 0)⟩ = .ok .next ⟨[.val (tD xs), .val (nD x), .own ((foundN xs x).map tD), .own (G.map nD), .own [], .val (nD x)], (0, 0, 0)⟩ := by
    simp
  cases hm : isMin xs x with
  | true =>
    have w := while_loop T hx hm hG (by omega) ((foundN xs x).map tD) (.val (nD x)) hN
    have pp := per_pos xs x
    have ne : ¬ ring xs x = [] := fun z => by have := self_mem_ring xs x; rw [z] at this; simp at this
    refine ⟨G ++ ring xs x, .own ((ring xs x).map nD), .val (nD (it xs (per xs x) x)), fun y => ?_, ?_, ?_⟩
    · rw [List.mem_append, hG, metB_succ]
      simp
    · rw [List.length_append, ring_len]
      have := T.per_le hx
      omega
    · refine seq_ok e1 (seq_ok (s1 := lS xs x G (.val (nD x)) ((foundN xs x).map tD) (per xs x)) ?_ ?_)
      · rw [← w]
        simp [lS, someR, it]
      · unfold lS
        simp [someR_per, ne, y_app hfl]
        rw [found_succ, hm]
        simp [tD]
  | false =>
    refine ⟨G, .own [], .val (nD x), fun y => ?_, by omega, ?_⟩
    · rw [hG, met_same T hx hm]
    · refine seq_ok e1 (seq_ok (s1 := ⟨[.val (tD xs), .val (nD x), .own ((foundN xs x).map tD), .own (G.map nD), .own [], .val (nD x)], (0, 0, 0)⟩) ?_ ?_)
      · have hin : x ∈ G := (hG x).mpr (met_old T hx hm)
        have := notIn_nD x G
        simp only [hin, decide_true, Bool.not_true] at this
        obtain ⟨N, rfl⟩ : ∃ M, N = M + 1 := ⟨N - 1, by omega⟩
        unfold whileL
        unfold lT
        simp only [y_b, y_op2, y_var, List.getElem?_cons_succ, List.getElem?_cons_zero, x_bind, x_peek, y_peekS, this]
      · have n0 : neD (.lst []) (.lst []) = some (.dat (.bl false)) := x_neL [] []
        simp [n0]
        rw [found_succ, hm]
        simp
theorem ll_run (T : IsTurn xs) {N : Nat} (hN : 100 < N) : ∃ s', ll N ⟨[.val (tD xs), .no, .no, .no, .no, .no], (0, 0, 0)⟩ = .ok (.ret (rsD (ringsN xs))) s' := by
  have hi := T.hi
  obtain ⟨s', e, G, v1, v4, v5, _, _, hs⟩ := for_range (i := 1) (sb := llB N) (fun k s => ∃ (G : List Nat) (v1 v4 v5 : Sl), (∀ y, y ∈ G ↔ metB xs k y = true) ∧ G.length ≤ 24 * k ∧ s = ⟨[.val (tD xs), v1, .own ((foundN xs k).map tD), .own (G.map nD), v4, v5], (0, 0, 0)⟩) (n := xs.length)
    (s := ⟨[.val (tD xs), .no, .own [], .own [], .no, .no], (0, 0, 0)⟩) ⟨[], .no, .no, .no, fun y => by simp [metB], by simp, rfl⟩ (fun x s hx ⟨G, v1, v4, v5, hG, hl, hs⟩ => by
      subst hs
      obtain ⟨G', v4', v5', a, b, c⟩ := ll_step T hN hx hG hl v4 v5
      exact ⟨_, c, G', _, v4', v5', a, b, rfl⟩)
  subst hs
  refine ⟨⟨[.val (tD xs), v1, .own ((foundN xs xs.length).map tD), .own (G.map nD), v4, v5], (0, 0, 0)⟩, ?_⟩
  refine seq_ok (s1 := ⟨[.val (tD xs), .no, .own [], .own [], .no, .no], (0, 0, 0)⟩) ?_ (seq_ok (for_ok (rg1 (n := xs.length) ?_ (by omega)) e) ?_)
  · simp
  · simp
  · simp [found_all]
    rfl
theorem p_l_loops (c : Cup) (T : IsTurn xs) : f_l_loops c [tD xs] = .ok (rsD (ringsN xs)) (0, 0, 0) := by
  obtain ⟨s', e⟩ := ll_run T (N := 100000) (by decide)
  rw [← ll_eq] at e
  exact defP_ret rfl (by decide) e
end
end Pg
end Eng

/-! pure side: places led along rings, powers -/
namespace Eng
namespace Pg
open PySem PySem.Spec PyProof.Rows L2 Evl Tn
variable [Tb]
@[simp] theorem y_modP (i j : Int) (h : 0 < j) : modD (.int i) (.int j) = some (.dat (.int (i % j))) := by
  show (if 0 < j then some (Vw.dat (D.int (i % j))) else none) = _
  rw [if_pos h]
def glN (n : Nat) (τ : Nat → Nat) (done : List Nat) : List Nat := (List.range n).map fun y => if y ∈ done then τ y else y
theorem gl_len (n : Nat) (τ : Nat → Nat) (done : List Nat) : (glN n τ done).length = n := by simp [glN]
theorem gl_set {n : Nat} {τ : Nat → Nat} {done : List Nat} {x : Nat} : (glN n τ done).set x (τ x) = glN n τ (done ++ [x]) := by
  apply List.ext_getElem?
  intro i
  rw [List.getElem?_set]
  by_cases h : i < n
  · by_cases e : x = i
    · subst e
      simp [glN, h]
    · have e' : ¬ i = x := fun z => e z.symm
      simp [glN, h, e, e']
  · by_cases e : x = i
    · subst e; simp [glN, h]
    · simp [glN, h, e]
theorem gl_setD {n : Nat} {τ : Nat → Nat} {done : List Nat} {x : Nat} : ((glN n τ done).map nD).set x (nD (τ x)) = (glN n τ (done ++ [x])).map nD := by rw [← gl_set, List.map_set]
theorem gl_nil (n : Nat) (τ : Nat → Nat) : glN n τ [] = List.range n := by simp [glN]
theorem gl_all {n : Nat} {τ : Nat → Nat} {done : List Nat} (h : ∀ y, y < n → y ∈ done) : glN n τ done = (List.range n).map τ :=
  List.map_congr_left fun y hy => by rw [if_pos (h y (List.mem_range.mp hy))]
theorem take_succ' {α : Type} {xs : List α} {k : Nat} {x : α} (h : xs[k]? = some x) : xs.take (k + 1) = xs.take k ++ [x] := by
  rw [List.take_add_one, h]
  rfl
theorem ixN_int {n : Nat} {i : Int} (h0 : 0 ≤ i) (h : i < n) : L2.ixN n i = some i.toNat := by
  unfold L2.ixN
  rw [if_pos h0, if_pos h]
theorem ixT' {xs : List Nat} {i : Int} {y : Nat} (h0 : 0 ≤ i) (e : xs[i.toNat]? = some y) : ixD (tD xs) (.int i) = some (.dat (nD y)) := by
  have h := (List.getElem?_eq_some_iff.mp e).1
  have hi : D.int i = nD i.toNat := by unfold nD; rw [Int.toNat_of_nonneg h0]
  unfold tD
  rw [hi]
  exact ixTD (by rw [List.getElem?_map, e]; rfl)
/-- one item is set -/
theorem set_one {n : Nat} {τ : Nat → Nat} {done : List Nat} {x i : Nat} {se sk : SE} {e : List Sl} (hx : x < n) (h0 : e[i]? = some (.own ((glN n τ done).map nD))) (h1 : se ⟨e, (0, 0, 0)⟩ = .ok (.dat (nD (τ x))) ⟨e, (0, 0, 0)⟩) (h2 : sk ⟨e, (0, 0, 0)⟩ = .ok (.dat (nD x)) ⟨e, (0, 0, 0)⟩) :
    sSetIx i se sk ⟨e, (0, 0, 0)⟩ = .ok .next ⟨e.set i (.own ((glN n τ (done ++ [x])).map nD)), (0, 0, 0)⟩ := by
  unfold sSetIx
  rw [h1]
  simp only [x_bind, x_frz, h0, h2]
  have z : ixN ((glN n τ done).map nD).length (x : Int) = some x := ixN_nat (by rw [List.length_map, gl_len]; exact hx)
  rw [← gl_setD]
  show (match ixN ((glN n τ done).map nD).length (x : Int) with
    | some j => Res.ok Out.next (setSl ⟨e, (0, 0, 0)⟩ i (.own (((glN n τ done).map nD).set j (nD (τ x)))))
    | none => .bad) = _
  rw [z]
  rfl
/-- what rings do: each item leads to the item so many steps on -/
def Leads (z : Int) (τ : Nat → Nat) (r : List Nat) : Prop := ∀ (k x : Nat), r[k]? = some x → r[(((k : Int) + z) % (r.length : Int)).toNat]? = some (τ x)
def alI : SS := sSetIx 3 (sOp2 ixD (sVar 4) (sOp2 modD (sOp2 addD (sVar 5) (sVar 2)) (sOp1 lenD (sVar 4)))) (sVar 6)
theorem al_one {z : Int} {τ : Nat → Nat} {r : List Nat} (hr : Leads z τ r) {n : Nat} (hn : ∀ x ∈ r, x < n) (a0 a1 : Sl) (done : List Nat) (v5 v6 : Sl) :
    ∃ v5' v6', forL (sgTwo 5 6) alI (enD (r.map nD)) ⟨[a0, a1, .val (.int z), .own ((glN n τ done).map nD), .val (tD r), v5, v6], (0, 0, 0)⟩ = .ok .next ⟨[a0, a1, .val (.int z), .own ((glN n τ (done ++ r)).map nD), .val (tD r), v5', v6'], (0, 0, 0)⟩ := by
  obtain ⟨s', e, v5', v6', hs⟩ := for_enum (f := nD) (i := 5) (j := 6) (sb := alI) (fun k s => ∃ v5 v6, s = ⟨[a0, a1, .val (.int z), .own ((glN n τ (done ++ r.take k)).map nD), .val (tD r), v5, v6], (0, 0, 0)⟩) (xs := r)
    (s := ⟨[a0, a1, .val (.int z), .own ((glN n τ done).map nD), .val (tD r), v5, v6], (0, 0, 0)⟩) ⟨v5, v6, by simp⟩ (fun k x s hx ⟨v5, v6, hs⟩ => by
      subst hs
      have hlen : 0 < (r.length : Int) := by
        have := (List.getElem?_eq_some_iff.mp hx).1
        omega
      have h0 : 0 ≤ ((k : Int) + z) % (r.length : Int) := Int.emod_nonneg _ (by omega)
      have ix := ixT' h0 (hr k x hx)
      refine ⟨_, set_one (n := n) (τ := τ) (done := done ++ r.take k) (x := x) (hn x (List.mem_of_getElem? hx)) (by simp) ?_ ?_, .val (nD k), .val (nD x), ?_⟩
      · simp [nD] at ix ⊢
        rw [y_modP _ _ hlen]
        simp only [x_bind, x_peek]
        rw [ix]
      · simp
      · rw [take_succ' hx, ← List.append_assoc]
        rfl)
  refine ⟨v5', v6', ?_⟩
  rw [e, hs, List.take_length]
theorem p_along (c : Cup) {z : Int} {τ : Nat → Nat} {rs : List (List Nat)} {n : Nat} (hn : n ≤ 1000) (hr : ∀ r ∈ rs, Leads z τ r) (hl : ∀ r ∈ rs, ∀ x ∈ r, x < n) : f_along c [nD n, rsD rs, .int z] = .ok (tD (glN n τ rs.flatten)) (0, 0, 0) := by
  obtain ⟨s', e, v4, v5, v6, hs⟩ := for_map (f := tD) (i := 4) (sb := sFor (siEnum (sVar 4)) (sgTwo 5 6) alI) (fun k s => ∃ v4 v5 v6, s = ⟨[.val (nD n), .val (rsD rs), .val (.int z), .own ((glN n τ (rs.take k).flatten).map nD), v4, v5, v6], (0, 0, 0)⟩) (xs := rs)
    (s := ⟨[.val (nD n), .val (rsD rs), .val (.int z), .own ((List.range n).map nD), .no, .no, .no], (0, 0, 0)⟩) ⟨.no, .no, .no, by simp [gl_nil]⟩ (fun k r s hx ⟨v4, v5, v6, hs⟩ => by
      subst hs
      have hm := List.mem_of_getElem? hx
      obtain ⟨v5', v6', e⟩ := al_one (hr r hm) (hl r hm) (.val (nD n)) (.val (rsD rs)) (rs.take k).flatten v5 v6
      refine ⟨_, for_ok (ds := enD (r.map nD)) (s1 := ⟨[.val (nD n), .val (rsD rs), .val (.int z), .own ((glN n τ (rs.take k).flatten).map nD), .val (tD r), v5, v6], (0, 0, 0)⟩) ?_ e, .val (tD r), v5', v6', ?_⟩
      · simp
      · rw [take_succ' hx, List.flatten_append]
        simp)
  subst hs
  refine defP_ret (s' := ⟨[.val (nD n), .val (rsD rs), .val (.int z), .own ((glN n τ (rs.take rs.length).flatten).map nD), v4, v5, v6], (0, 0, 0)⟩) rfl (by decide) ?_
  refine seq_ok (s1 := ⟨[.val (nD n), .val (rsD rs), .val (.int z), .own ((List.range n).map nD), .no, .no, .no], (0, 0, 0)⟩) ?_ (seq_ok (for_ok (ds := rs.map tD) (s1 := ⟨[.val (nD n), .val (rsD rs), .val (.int z), .own ((List.range n).map nD), .no, .no, .no], (0, 0, 0)⟩) ?_ e) ?_)
  · simp [lrg1 (sa := sVar 0) (s := ⟨[.val (nD n), .val (rsD rs), .val (.int z), .no, .no, .no, .no], (0, 0, 0)⟩) (s1 := ⟨[.val (nD n), .val (rsD rs), .val (.int z), .no, .no, .no, .no], (0, 0, 0)⟩) (n := n) (by simp) hn]
  · simp
  · simp
    rfl
section
variable {xs : List Nat}
theorem ring_leads (T : IsTurn xs) {x : Nat} (h : x < xs.length) (z : Int) : Leads z (itI xs z) (ring xs x) := by
  intro k y hy
  have hk : k < per xs x := by have := (List.getElem?_eq_some_iff.mp hy).1; rwa [ring_len] at this
  have p := per_pos xs x
  have e1 : y = it xs k x := by simpa [ring, hk] using hy.symm
  subst e1
  rw [ring_len]
  have h0 : 0 ≤ ((k : Int) + z) % (per xs x : Int) := Int.emod_nonneg _ (by omega)
  have h1 : ((k : Int) + z) % (per xs x : Int) < per xs x := Int.emod_lt_of_pos _ (by omega)
  have h2 : (((k : Int) + z) % (per xs x : Int)).toNat < per xs x := by omega
  have e2 : (ring xs x)[(((k : Int) + z) % (per xs x : Int)).toNat]? = some (it xs (((k : Int) + z) % (per xs x : Int)).toNat x) := by simp [ring, h2]
  rw [e2]
  congr 1
  have e3 : itI xs z (it xs k x) = itI xs (z + k) x := by rw [← T.itI_nat h k, T.itI_add h]
  rw [e3, Int.add_comm]
  rfl
theorem along_rings (T : IsTurn xs) (z : Int) : f_along (0,0,0) [nD xs.length, rsD (ringsN xs), .int z] = .ok (tD (powI xs z)) (0,0,0) := by
  have e := p_along (0, 0, 0) (z := z) (τ := itI xs z) (rs := ringsN xs) (n := xs.length) (by have := T.hi; omega) (fun r hr => by
    obtain ⟨x, hx, rfl⟩ := List.mem_map.mp hr
    exact ring_leads T (mem_reps.mp hx).1 z) (fun r hr y hy => by
    obtain ⟨x, hx, rfl⟩ := List.mem_map.mp hr
    exact T.ring_lt (mem_reps.mp hx).1 hy)
  rw [gl_all (fun y hy => T.mem_rings.mpr hy)] at e
  exact e
theorem p_raised (c : Cup) (T : IsTurn xs) (z : Int) : f_raised_to c [tD xs, .int z] = .ok (tD (powI xs z)) (0, 0, 0) := by
  refine defP_ret (s' := ⟨[.val (tD xs), .val (.int z)], (0, 0, 0)⟩) rfl (by decide) ?_
  have e := along_rings T z
  simp [ss_raised_to, p_rings_in _ T, e]
theorem p_check_number (c : Cup) {x a b : Int} (h1 : a ≤ x) (h2 : x ≤ b) : f_check_number c [.int x, .int a, .int b] = .ok .non (0, 0, 0) := by
  refine defP_next (s' := ⟨[.val (.int x), .val (.int a), .val (.int b)], (0, 0, 0)⟩) rfl (by decide) ?_
  simp [ss_check_number, p_is_integer, h1, h2]
theorem p_power (c : Cup) (T : IsTurn xs) {z : Int} (h1 : -1000000000000000000000000000000 ≤ z) (h2 : z ≤ 1000000000000000000000000000000) : f_power c [tD xs, .int z] = .ok (tD (powI xs z)) (0, 0, 0) := by
  refine defP_ret (s' := ⟨[.val (tD xs), .val (.int z)], (0, 0, 0)⟩) rfl (by decide) ?_
  simp [ss_power, p_check_turn _ T, p_check_number _ h1 h2, p_raised _ T]
/-! ### the law's own powers -/
theorem p_l_times (c : Cup) (T : IsTurn xs) {m : Nat} (hm : m ≤ 1000) : f_l_times c [tD xs, nD m] = .ok (tD (powI xs m)) (0, 0, 0) := by
  have hi := T.hi
  obtain ⟨s', e, v3, hs⟩ := for_range (i := 3) (sb := sAsg 2 (sCall f_one_then (sCons (sVar 2) (sCons (sVar 0) (sNil))))) (fun k s => ∃ v3, s = ⟨[.val (tD xs), .val (nD m), .val (tD (powI xs k)), v3], (0, 0, 0)⟩) (n := m)
    (s := ⟨[.val (tD xs), .val (nD m), .val (tD (still xs.length)), .no], (0, 0, 0)⟩) ⟨.no, by rw [show ((0 : Nat) : Int) = 0 from rfl, T.powI_zero]⟩ (fun k s hk ⟨v3, hs⟩ => by
      subst hs
      refine ⟨_, ?_, .val (nD k), rfl⟩
      have q := T.then_powI k 1
      rw [T.powI_one] at q
      simp [p_one_then _ (T.powI k) (powI_len xs k), q])
  subst hs
  refine defP_ret (s' := ⟨[.val (tD xs), .val (nD m), .val (tD (powI xs m)), v3], (0, 0, 0)⟩) rfl (by decide) ?_
  refine seq_ok (s1 := ⟨[.val (tD xs), .val (nD m), .val (tD (still xs.length)), .no], (0, 0, 0)⟩) ?_ (seq_ok (for_ok (rg1 (n := m) ?_ hm) e) ?_)
  · simp [p_l_still _ (show xs.length ≤ 1000 by omega)]
  · simp
  · simp
theorem cut_lo (r : List Nat) (g : Nat) (h : g ≤ r.length) : cutL (r.map nD) (some (g : Int)) none = (r.drop g).map nD := by
  unfold cutL
  rw [HT.sIx_nat, HT.sIx_none, Nat.min_eq_left (by simpa using h), List.take_of_length_le (by simp), List.map_drop]
theorem cut_hi (r : List Nat) (g : Nat) (h : g ≤ r.length) : cutL (r.map nD) none (some (g : Int)) = (r.take g).map nD := by
  unfold cutL
  rw [HT.sIx_nat, HT.sIx_none, Nat.min_eq_left (by simpa using h), List.map_take]
  simp
theorem turned_get {r : List Nat} {g k : Nat} (hg : g < r.length) (hk : k < r.length) : (r.drop g ++ r.take g)[k]? = r[(k + g) % r.length]? := by
  rw [List.getElem?_append]
  by_cases h : k < r.length - g
  · rw [if_pos (by rw [List.length_drop]; exact h), List.getElem?_drop, Nat.mod_eq_of_lt (by omega), Nat.add_comm]
  · rw [if_neg (by rw [List.length_drop]; exact h), List.length_drop, List.getElem?_take, if_pos (by omega)]
    congr 1
    rw [Nat.mod_eq_sub_mod (by omega), Nat.mod_eq_of_lt (by omega)]
    omega
def brI : SS := sSetIx 2 (sOp2 ixD (sVar 5) (sVar 6)) (sOp2 ixD (sVar 3) (sVar 6))
def brB : SS := sSeq (sAsg 4 (sOp2 modD (sOp1 intD (sVar 1)) (sOp1 lenD (sVar 3)))) (sSeq (sAsg 5 (sOp2 addD (sSl (sVar 3) (sPart (sVar 4)) (sNoP)) (sSl (sVar 3) (sNoP) (sPart (sVar 4))))) (sFor (siRange1 (sCons (sOp1 lenD (sVar 3)) (sNil))) (sgName 6) brI))
theorem br_one (T : IsTurn xs) {x : Nat} (h : x < xs.length) (z : Int) (a0 : Sl) (done : List Nat) (v4 v5 v6 : Sl) :
    ∃ v4' v5' v6', brB ⟨[a0, .val (.int z), .own ((glN xs.length (itI xs z) done).map nD), .val (tD (ring xs x)), v4, v5, v6], (0, 0, 0)⟩ = .ok .next ⟨[a0, .val (.int z), .own ((glN xs.length (itI xs z) (done ++ ring xs x)).map nD), .val (tD (ring xs x)), v4', v5', v6'], (0, 0, 0)⟩ := by
  have hi := T.hi
  have p := per_pos xs x
  have pl := T.per_le h
  have hl : 0 < ((ring xs x).length : Int) := by rw [ring_len]; omega
  have g0 : 0 ≤ z % ((ring xs x).length : Int) := Int.emod_nonneg _ (by omega)
  have g1 : z % ((ring xs x).length : Int) < ((ring xs x).length : Int) := Int.emod_lt_of_pos _ hl
  obtain ⟨g, hg⟩ : ∃ g : Nat, z % ((ring xs x).length : Int) = (g : Int) := ⟨_, (Int.toNat_of_nonneg g0).symm⟩
  rw [hg] at g1
  have g2 : g < (ring xs x).length := by omega
  have hle : (ring xs x).length ≤ 24 := by rw [ring_len]; omega
  obtain ⟨s', e, v6', hs⟩ := for_range (i := 6) (sb := brI) (fun k s => ∃ v6, s = ⟨[a0, .val (.int z), .own ((glN xs.length (itI xs z) (done ++ (ring xs x).take k)).map nD), .val (tD (ring xs x)), .val (nD g), .val (tD ((ring xs x).drop g ++ (ring xs x).take g)), v6], (0, 0, 0)⟩) (n := (ring xs x).length)
    (s := ⟨[a0, .val (.int z), .own ((glN xs.length (itI xs z) done).map nD), .val (tD (ring xs x)), .val (nD g), .val (tD ((ring xs x).drop g ++ (ring xs x).take g)), v6], (0, 0, 0)⟩) ⟨v6, by simp⟩ (fun k s hk ⟨v6, hs⟩ => by
      subst hs
      have hx : (ring xs x)[k]? = some ((ring xs x)[k]) := List.getElem?_eq_getElem hk
      generalize (ring xs x)[k] = y at hx
      have hy := List.mem_of_getElem? hx
      have ld := ring_leads T h z k y hx
      have e1 : (((k : Int) + z) % ((ring xs x).length : Int)).toNat = (k + g) % (ring xs x).length := by
        rw [Int.add_emod, hg, ← Int.natCast_emod, ← Int.natCast_add, ← Int.natCast_emod, Int.toNat_natCast, Nat.mod_add_mod]
      rw [e1] at ld
      refine ⟨_, set_one (n := xs.length) (τ := itI xs z) (done := done ++ (ring xs x).take k) (x := y) (T.ring_lt h hy) (by simp) ?_ ?_, .val (nD k), ?_⟩
      · have := turned_get g2 hk
        rw [ld] at this
        have i1 := ixTD (ds := ((ring xs x).drop g ++ (ring xs x).take g).map nD) (i := k) (d := nD (itI xs z y)) (by rw [List.getElem?_map, this]; rfl)
        simp [tD] at i1 ⊢
        rw [i1]
      · have i1 := ixTD (ds := (ring xs x).map nD) (i := k) (d := nD y) (by rw [List.getElem?_map, hx]; rfl)
        simp [tD]
        rw [i1]
      · rw [take_succ' hx, ← List.append_assoc]
        rfl)
  subst hs
  refine ⟨.val (nD g), .val (tD ((ring xs x).drop g ++ (ring xs x).take g)), v6', ?_⟩
  refine seq_ok (s1 := ⟨[a0, .val (.int z), .own ((glN xs.length (itI xs z) done).map nD), .val (tD (ring xs x)), .val (nD g), v5, v6], (0, 0, 0)⟩) ?_ (seq_ok (s1 := ⟨[a0, .val (.int z), .own ((glN xs.length (itI xs z) done).map nD), .val (tD (ring xs x)), .val (nD g), .val (tD ((ring xs x).drop g ++ (ring xs x).take g)), v6], (0, 0, 0)⟩) ?_ ?_)
  · simp [nD]
    rw [y_modP _ _ hl, hg]
    simp
  · have c1 := cut_lo (ring xs x) g (by omega)
    have c2 := cut_hi (ring xs x) g (by omega)
    have a : addD (.tup (((ring xs x).drop g).map nD)) (.tup (((ring xs x).take g).map nD)) = some (.dat (tD ((ring xs x).drop g ++ (ring xs x).take g))) := by
      unfold addD
      simp only
      rw [if_pos (by rw [List.length_map, List.length_map, List.length_drop, List.length_take]; unfold line; omega)]
      unfold tD
      rw [List.map_append]
    simp [tD, nD] at c1 c2 a ⊢
    rw [c1, c2, a]
    simp
  · refine for_ok (rg1 (n := (ring xs x).length) (s1 := ⟨[a0, .val (.int z), .own ((glN xs.length (itI xs z) done).map nD), .val (tD (ring xs x)), .val (nD g), .val (tD ((ring xs x).drop g ++ (ring xs x).take g)), v6], (0, 0, 0)⟩) ?_ (by omega)) ?_
    · simp
    · rw [e, List.take_length]
theorem p_l_by_rest (c : Cup) (T : IsTurn xs) (z : Int) : f_l_by_rest c [tD xs, .int z] = .ok (tD (powI xs z)) (0, 0, 0) := by
  have hi := T.hi
  obtain ⟨s', e, v3, v4, v5, v6, hs⟩ := for_map (f := tD) (i := 3) (sb := brB) (fun k s => ∃ v3 v4 v5 v6, s = ⟨[.val (tD xs), .val (.int z), .own ((glN xs.length (itI xs z) ((ringsN xs).take k).flatten).map nD), v3, v4, v5, v6], (0, 0, 0)⟩) (xs := ringsN xs)
    (s := ⟨[.val (tD xs), .val (.int z), .own ((List.range xs.length).map nD), .no, .no, .no, .no], (0, 0, 0)⟩) ⟨.no, .no, .no, .no, by simp [gl_nil]⟩ (fun k r s hx ⟨v3, v4, v5, v6, hs⟩ => by
      subst hs
      have hm := List.mem_of_getElem? hx
      obtain ⟨x, hxr, rfl⟩ := List.mem_map.mp hm
      obtain ⟨v4', v5', v6', e⟩ := br_one T (mem_reps.mp hxr).1 z (.val (tD xs)) ((ringsN xs).take k).flatten v4 v5 v6
      refine ⟨_, e, .val (tD (ring xs x)), v4', v5', v6', ?_⟩
      rw [take_succ' hx, List.flatten_append]
      simp)
  subst hs
  refine defP_ret (s' := ⟨[.val (tD xs), .val (.int z), .own ((glN xs.length (itI xs z) ((ringsN xs).take (ringsN xs).length).flatten).map nD), v3, v4, v5, v6], (0, 0, 0)⟩) rfl (by decide) ?_
  refine seq_ok (s1 := ⟨[.val (tD xs), .val (.int z), .own ((List.range xs.length).map nD), .no, .no, .no, .no], (0, 0, 0)⟩) ?_ (seq_ok (for_ok (ds := (ringsN xs).map tD) (s1 := ⟨[.val (tD xs), .val (.int z), .own ((List.range xs.length).map nD), .no, .no, .no, .no], (0, 0, 0)⟩) ?_ e) ?_)
  · simp [lrg1 (sa := sOp1 lenD (sVar 0)) (s := ⟨[.val (tD xs), .val (.int z), .no, .no, .no, .no, .no], (0, 0, 0)⟩) (s1 := ⟨[.val (tD xs), .val (.int z), .no, .no, .no, .no, .no], (0, 0, 0)⟩) (n := xs.length) (by simp) (by omega)]
  · simp [p_l_loops _ T]
  · rw [List.take_length, gl_all (fun y hy => T.mem_rings.mpr hy)]
    simp [tD, powI]
end
end Pg
end Eng

/-! pure side: kinds -/
namespace Eng
namespace Pg
open PySem PySem.Spec PyProof.Rows L2 Evl Tn
variable [Tb]
/-- in descending order -/
def kN (ls : List Nat) : List Nat := (sortI (ls.map Int.ofNat)).reverse.map Int.toNat
theorem sortI_nat (ls : List Nat) : sortI (ls.map Int.ofNat) = ((sortI (ls.map Int.ofNat)).map Int.toNat).map Int.ofNat := by
  rw [List.map_map]
  conv => lhs; rw [← List.map_id (sortI (ls.map Int.ofNat))]
  refine List.map_congr_left fun x hx => ?_
  have := (sortI_perm _).mem_iff.mp hx
  obtain ⟨y, _, rfl⟩ := List.mem_map.mp this
  rfl
theorem kN_perm (ls : List Nat) : (kN ls).Perm ls := by
  have h : (sortI (ls.map Int.ofNat)).Perm (ls.map Int.ofNat) := sortI_perm _
  have h2 := (h.map Int.toNat)
  rw [List.map_map] at h2
  have e : ls.map (Int.toNat ∘ Int.ofNat) = ls := by
    conv => rhs; rw [← List.map_id ls]
    rfl
  rw [e] at h2
  exact ((List.reverse_perm _).map _).trans h2
theorem kN_eq {ls ms : List Nat} (h : ls.Perm ms) : kN ls = kN ms := by
  unfold kN
  rw [sorted_uniq ((sortI_perm _).trans ((h.map _).trans (sortI_perm _).symm)) (sortI_sorted _) (sortI_sorted _)]
theorem kN_desc (ls : List Nat) : (kN ls).Pairwise (· ≥ ·) := by
  unfold kN
  rw [List.pairwise_map, List.pairwise_reverse]
  exact (sortI_sorted _).imp fun {a b} h => Int.toNat_le_toNat h
theorem y_sortedR (ls : List Nat) : sortedRD (.lst (ls.map nD)) = some (.fr ((kN ls).map nD)) := by
  rw [nD_int]
  unfold sortedRD
  simp only [intsOf_map, Option.map_some]
  congr 2
  rw [nD_int]
  unfold kN
  congr 1
  conv => lhs; rw [sortI_nat]
  rw [← List.map_reverse, ← List.map_reverse, List.map_reverse]
structure IsKind (ks : List Nat) : Prop where
  lo : 1 ≤ ks.length
  pos : ∀ k ∈ ks, 1 ≤ k
  desc : ks.Pairwise (· ≥ ·)
  sum : ks.sum ≤ 24
theorem len_le_sum : ∀ {ks : List Nat}, (∀ k ∈ ks, 1 ≤ k) → ks.length ≤ ks.sum
  | [], _ => Nat.le_refl _
  | k :: ks, h => by
    rw [List.length_cons, List.sum_cons]
    have := h k (.head _)
    have := len_le_sum (ks := ks) fun k m => h k (.tail _ m)
    omega
theorem mem_le_sum : ∀ {ks : List Nat} {k : Nat}, k ∈ ks → k ≤ ks.sum
  | a :: ks, k, h => by
    rw [List.sum_cons]
    rcases List.mem_cons.mp h with e | e
    · omega
    · have := mem_le_sum e
      omega
theorem kN_kind {ls : List Nat} (h1 : ∀ k ∈ ls, 1 ≤ k) (h2 : ls ≠ []) (h3 : ls.sum ≤ 24) : IsKind (kN ls) where
  lo := by
    rw [(kN_perm ls).length_eq]
    exact Nat.one_le_iff_ne_zero.mpr fun z => h2 (List.length_eq_zero_iff.mp z)
  pos k hk := h1 k ((kN_perm ls).mem_iff.mp hk)
  desc := kN_desc ls
  sum := by rw [(kN_perm ls).sum_nat]; exact h3
theorem intsOf_nD (ks : List Nat) : intsOf (ks.map nD) = some (ks.map Int.ofNat) := by rw [nD_int, intsOf_map]
theorem sum_ofNat : ∀ ks : List Nat, (ks.map Int.ofNat).sum = ((ks.sum : Nat) : Int)
  | [] => rfl
  | k :: ks => by
    rw [List.map_cons, List.sum_cons, List.sum_cons, sum_ofNat ks]
    show (k : Int) + _ = _
    omega
theorem y_sumT (ks : List Nat) : sumTD (tD ks) = some (.dat (nD ks.sum)) := by
  unfold tD sumTD
  simp only [intsOf_nD, Option.map_some, sum_ofNat]
  rfl
theorem p_is_kind (c : Cup) {ks : List Nat} (h : IsKind ks) : f_is_kind c [tD ks] = .ok (.bl true) (0, 0, 0) := by
  have hl : ks.length ≤ 24 := Nat.le_trans (len_le_sum h.pos) h.sum
  obtain ⟨s', e, v2, m, _, hs⟩ := for_map (f := nD) (i := 2) (sb := (sSeq (sIfS (sNot (sB (sCall f_is_integer (sCons (sVar 2) (sCons (sC (.int 1)) (sCons (sVar 1) (sNil))))))) (sRet (sC (.bl false))) (sNext)) (sAsg 1 (sVar 2)))) (fun j s => ∃ v2 m, (∀ x ∈ ks.drop j, x ≤ m) ∧ s = ⟨[.val (tD ks), .val (nD m), v2], (0, 0, 0)⟩) (xs := ks)
    (s := ⟨[.val (tD ks), .val (nD 24), .no], (0, 0, 0)⟩) ⟨.no, 24, fun x hx => Nat.le_trans (mem_le_sum (List.mem_of_mem_drop hx)) h.sum, rfl⟩ (fun j x s hx ⟨v2, m, hm, hs⟩ => by
      subst hs
      have hj := (List.getElem?_eq_some_iff.mp hx).1
      have hd : ks.drop j = x :: ks.drop (j + 1) := by
        rw [List.drop_eq_getElem_cons hj]
        congr 1
        exact (List.getElem?_eq_some_iff.mp hx).2
      rw [hd] at hm
      have h1 : (1 : Int) ≤ (x : Int) := by have := h.pos x (List.mem_of_getElem? hx); omega
      have h2 : (x : Int) ≤ (m : Int) := by have := hm x (.head _); omega
      have q := p_is_integer (0, 0, 0) (x : Int) 1 (m : Int)
      simp only [h1, h2, decide_true, Bool.and_self] at q
      refine ⟨_, ?_, .val (nD x), x, fun y hy => ?_, rfl⟩
      · simp [nD, q]
      · have pw := h.desc.sublist (List.drop_sublist j ks)
        rw [hd] at pw
        exact (List.pairwise_cons.mp pw).1 y hy)
  subst hs
  have h1 : (1 : Int) ≤ (ks.length : Int) := by have := h.lo; omega
  have h2 : (ks.length : Int) ≤ 24 := by omega
  have t1 : isiD "tuple" (tD ks) = some (.dat (.bl true)) := isi_tup_tuple _
  have h3 : (ks.sum : Int) ≤ 24 := by have := h.sum; omega
  refine defP_ret (s' := ⟨[.val (tD ks), .val (nD m), v2], (0, 0, 0)⟩) rfl (by decide) ?_
  refine seq_ok (s1 := ⟨[.val (tD ks), .no, .no], (0, 0, 0)⟩) ?_ (seq_ok (s1 := ⟨[.val (tD ks), .val (nD 24), .no], (0, 0, 0)⟩) ?_ (seq_ok (for_ok (ds := ks.map nD) (s1 := ⟨[.val (tD ks), .val (nD 24), .no], (0, 0, 0)⟩) ?_ e) ?_))
  · simp [t1, nD, h1, h2]
  · simp [nD]
  · simp
  · simp [y_sumT, nD, h3]
theorem p_check_kind (c : Cup) {ks : List Nat} (h : IsKind ks) : f_check_kind c [tD ks] = .ok .non (0, 0, 0) := by
  refine defP_next (s' := ⟨[.val (tD ks)], (0, 0, 0)⟩) rfl (by decide) ?_
  simp [ss_check_kind, p_is_kind _ h]
section
variable {xs : List Nat}
theorem lens_kind (T : IsTurn xs) : IsKind (kN (lens xs)) := by
  refine kN_kind (fun _ => lens_pos) (fun z => ?_) (by rw [T.lens_sum]; exact T.hi)
  have := T.lens_sum
  rw [z] at this
  have := T.lo
  simp at *
  omega
theorem rings_count (T : IsTurn xs) : (ringsN xs).length ≤ 24 := by
  have h := len_le_sum (ks := lens xs) fun _ => lens_pos
  rw [T.lens_sum] at h
  have e : (lens xs).length = (ringsN xs).length := by simp [lens]
  have := T.hi
  omega
theorem p_kind_in (c : Cup) (T : IsTurn xs) : f_kind_in c [tD xs] = .ok (tD (kN (lens xs))) (0, 0, 0) := by
  have l := lcL_map (i := 1) (se := sOp1 lenD (sVar 1)) (g := fun d => match d with | .tup l => nD l.length | d => d) (s := ⟨[.val (tD xs), .no], (0, 0, 0)⟩) rfl rfl ((ringsN xs).map tD) [] (fun d hd => by
    obtain ⟨r, hr, rfl⟩ := List.mem_map.mp hd
    simp [tD]
    rfl) (by have := rings_count T; simp [line]; omega)
  have e : sLc (siSeq (sCall f_rings_in (sCons (sVar 0) (sNil)))) (sgName 1) (sYes) (sOp1 lenD (sVar 1)) [1] ⟨[.val (tD xs), .no], (0, 0, 0)⟩ = .ok (.fr ((lens xs).map nD)) ⟨[.val (tD xs), .no], (0, 0, 0)⟩ := by
    unfold sLc
    simp [p_rings_in _ T]
    refine l.trans ?_
    rw [List.nil_append, List.map_map, lens, List.map_map]
    congr 2
    refine List.map_congr_left fun r _ => ?_
    simp [tD]
  refine defP_ret (s' := ⟨[.val (tD xs), .no], (0, 0, 0)⟩) rfl (by decide) ?_
  simp [ss_kind_in, e, y_sortedR]
  rfl
theorem p_kind_of (c : Cup) (T : IsTurn xs) : f_kind_of c [tD xs] = .ok (tD (kN (lens xs))) (0, 0, 0) := by
  refine defP_ret (s' := ⟨[.val (tD xs)], (0, 0, 0)⟩) rfl (by decide) ?_
  simp [ss_kind_of, p_check_turn _ T, p_kind_in _ T]
end
theorem y_lcm {a b : Nat} (h1 : 1 ≤ a) (h2 : a < 2 ^ 60) (h3 : 1 ≤ b) (h4 : b < 2 ^ 60) : lcmD (nD a) (nD b) = some (.dat (nD (Nat.lcm a b))) := by
  unfold lcmD nD iopC
  simp only
  rw [if_pos ⟨by omega, by omega, by omega, by omega⟩]
  rfl
theorem sum_take_le : ∀ (ks : List Nat) (j : Nat), (ks.take j).sum ≤ ks.sum
  | [], j => by simp
  | k :: ks, 0 => by simp
  | k :: ks, j + 1 => by
    rw [List.take_succ_cons, List.sum_cons, List.sum_cons]
    have := sum_take_le ks j
    omega
theorem lcm_take_lt {ks : List Nat} (h : ks.sum ≤ 24) (j : Nat) : lcmL (ks.take j) < 2 ^ 60 := by
  have a := foldl_lcm_le (ks.take j) 1
  rw [Nat.one_mul] at a
  have b := Nat.pow_le_pow_right (n := 2) (by decide) (Nat.le_trans (sum_take_le ks j) h)
  exact Nat.lt_of_le_of_lt (Nat.le_trans a b) (by decide)
theorem lcmL_snoc (ks : List Nat) (x : Nat) : lcmL (ks ++ [x]) = Nat.lcm (lcmL ks) x := by simp [lcmL]
theorem lcmL_pos {ks : List Nat} (h : ∀ k ∈ ks, 1 ≤ k) : 1 ≤ lcmL ks := foldl_lcm_pos ks 1 (Nat.le_refl _) h
/-- lcm over items, each by a reading that tells its number -/
theorem lcm_loop {α : Type} {f : α → D} {sz : α → Nat} {i : Nat} {se : SE} {a0 : Sl} {items : List α} (hs : (items.map sz).sum ≤ 24) (hp : ∀ x ∈ items, 1 ≤ sz x)
    (hse : ∀ (v1 : Sl) (x : α), x ∈ items → se ⟨[a0, v1, .val (f x)], (0, 0, 0)⟩ = .ok (.dat (nD (sz x))) ⟨[a0, v1, .val (f x)], (0, 0, 0)⟩) :
    ∃ v2, forL (sgName 2) (sAsg 1 (sOp2 lcmD (sVar 1) se)) (items.map f) ⟨[a0, .val (.int 1), .no], (0, 0, 0)⟩ = .ok .next ⟨[a0, .val (nD (lcmL (items.map sz))), v2], (0, 0, 0)⟩ := by
  obtain ⟨s', e, v2, hs⟩ := for_map (f := f) (i := 2) (sb := sAsg 1 (sOp2 lcmD (sVar 1) se)) (fun j s => ∃ v2, s = ⟨[a0, .val (nD (lcmL ((items.map sz).take j))), v2], (0, 0, 0)⟩) (xs := items) (s := ⟨[a0, .val (.int 1), .no], (0, 0, 0)⟩) ⟨.no, rfl⟩ (fun j x s hx ⟨v2, hs'⟩ => by
    subst hs'
    have hm := List.mem_of_getElem? hx
    have q := y_lcm (a := lcmL ((items.map sz).take j)) (b := sz x) (lcmL_pos fun k hk => by
      obtain ⟨y, hy, rfl⟩ := List.mem_map.mp (List.mem_of_mem_take hk)
      exact hp y hy) (lcm_take_lt hs j) (hp x hm) (by
      have := mem_le_sum (List.mem_map.mpr ⟨x, hm, rfl⟩ : sz x ∈ items.map sz)
      omega)
    refine ⟨_, ?_, .val (f x), rfl⟩
    have t : (items.map sz).take (j + 1) = (items.map sz).take j ++ [sz x] := take_succ' (by rw [List.getElem?_map, hx]; rfl)
    rw [t, lcmL_snoc]
    simp [hse _ x hm, q])
  refine ⟨v2, ?_⟩
  rw [e, hs, List.take_of_length_le (by simp)]
theorem p_number_back (c : Cup) {xs : List Nat} (T : IsTurn xs) : f_number_back c [tD xs] = .ok (nD (lcmL (lens xs))) (0, 0, 0) := by
  obtain ⟨v2, e⟩ := lcm_loop (f := tD) (sz := List.length) (i := 2) (se := sOp1 lenD (sVar 2)) (a0 := .val (tD xs)) (items := ringsN xs) (by
    have := T.lens_sum
    have := T.hi
    show (lens xs).sum ≤ 24
    omega) (fun r hr => by
    have : r.length ∈ lens xs := List.mem_map.mpr ⟨r, hr, rfl⟩
    exact lens_pos this) (fun v1 r hr => by simp)
  refine defP_ret (s' := ⟨[.val (tD xs), .val (nD (lcmL (lens xs))), v2], (0, 0, 0)⟩) rfl (by decide) ?_
  refine seq_ok (s1 := ⟨[.val (tD xs), .val (.int 1), .no], (0, 0, 0)⟩) ?_ (seq_ok (for_ok (ds := (ringsN xs).map tD) (s1 := ⟨[.val (tD xs), .val (.int 1), .no], (0, 0, 0)⟩) ?_ e) ?_)
  · simp
  · simp [p_rings_in _ T]
  · simp
    rfl
theorem p_back_after_turn (c : Cup) {xs : List Nat} (T : IsTurn xs) : f_back_after_turn c [tD xs] = .ok (nD (lcmL (lens xs))) (0, 0, 0) := by
  refine defP_ret (s' := ⟨[.val (tD xs)], (0, 0, 0)⟩) rfl (by decide) ?_
  simp [ss_back_after_turn, p_check_turn _ T, p_number_back _ T]
theorem p_back_after (c : Cup) {ks : List Nat} (h : IsKind ks) : f_back_after c [tD ks] = .ok (nD (lcmL ks)) (0, 0, 0) := by
  obtain ⟨v2, e⟩ := lcm_loop (f := nD) (sz := id) (i := 2) (se := sVar 2) (a0 := .val (tD ks)) (items := ks) (by rw [List.map_id]; exact h.sum) h.pos (fun v1 r hr => by simp)
  rw [List.map_id] at e
  refine defP_ret (s' := ⟨[.val (tD ks), .val (nD (lcmL ks)), v2], (0, 0, 0)⟩) rfl (by decide) ?_
  refine seq_ok (s1 := ⟨[.val (tD ks), .no, .no], (0, 0, 0)⟩) ?_ (seq_ok (s1 := ⟨[.val (tD ks), .val (.int 1), .no], (0, 0, 0)⟩) ?_ (seq_ok (for_ok (ds := ks.map nD) (s1 := ⟨[.val (tD ks), .val (.int 1), .no], (0, 0, 0)⟩) ?_ e) ?_))
  · simp [p_check_kind _ h]
  · simp
  · simp
  · simp
theorem y_gcd (a b : Nat) : gcdD (nD a) (nD b) = some (.dat (nD (Nat.gcd a b))) := rfl
theorem y_fdiv {a b : Nat} (h : 0 < b) (h2 : b ≤ 24) : fdivD (nD a) (nD b) = some (.dat (nD (a / b))) := by
  unfold fdivD iopC nD
  simp only
  have h3 : (b : Int).natAbs.log2 < 9000 := by
    rw [Int.natAbs_natCast]
    have : b.log2 < 5 := (Nat.log2_lt (by omega)).mpr (by omega)
    omega
  rw [if_pos ⟨by omega, h3⟩]
  rfl
theorem kpow_take {ks : List Nat} {j x m : Nat} (h : ks[j]? = some x) : kpow (ks.take (j + 1)) m = kpow (ks.take j) m ++ List.replicate (Nat.gcd x m) (x / Nat.gcd x m) := by
  rw [take_succ' h]
  simp [kpow]
theorem sum_replicate' (n a : Nat) : (List.replicate n a).sum = n * a := by simp
theorem kpow_sum : ∀ (ks : List Nat) (m : Nat), (kpow ks m).sum = ks.sum
  | [], m => rfl
  | k :: ks, m => by
    have e1 : kpow (k :: ks) m = List.replicate (Nat.gcd k m) (k / Nat.gcd k m) ++ kpow ks m := by simp [kpow]
    rw [e1, List.sum_append, kpow_sum ks m, sum_replicate', List.sum_cons, Nat.mul_div_cancel' (Nat.gcd_dvd_left k m)]
theorem p_kind_power (c : Cup) {ks : List Nat} (h : IsKind ks) {m : Nat} (hm : m ≤ 1000000000000000000000000000000) : f_kind_power c [tD ks, nD m] = .ok (tD (kN (kpow ks m))) (0, 0, 0) := by
  obtain ⟨s', e, v3, v4, hs⟩ := for_map (f := nD) (i := 3) (sb := (sSeq (sAsg 4 (sOp2 gcdD (sVar 3) (sVar 1))) (sDrop (sMut 2 fExtT (sCons (sOp2 mulD (sLst (sCons (sOp2 fdivD (sVar 3) (sVar 4)) (sNil))) (sVar 4)) (sNil)))))) (fun j s => ∃ v3 v4, s = ⟨[.val (tD ks), .val (nD m), .own ((kpow (ks.take j) m).map nD), v3, v4], (0, 0, 0)⟩) (xs := ks)
    (s := ⟨[.val (tD ks), .val (nD m), .own [], .no, .no], (0, 0, 0)⟩) ⟨.no, .no, rfl⟩ (fun j x s hx ⟨v3, v4, hs⟩ => by
      subst hs
      have hmem := List.mem_of_getElem? hx
      have x1 := h.pos x hmem
      have x2 : x ≤ 24 := Nat.le_trans (mem_le_sum hmem) h.sum
      have g1 : 0 < Nat.gcd x m := Nat.gcd_pos_of_pos_left m x1
      have g2 : Nat.gcd x m ≤ 24 := Nat.le_trans (Nat.le_of_dvd x1 (Nat.gcd_dvd_left x m)) x2
      have hlen : (kpow (ks.take j) m).length ≤ 24 := by
        refine Nat.le_trans (len_le_sum fun k hk => kpow_pos (fun L hL => h.pos L (List.mem_of_mem_take hL)) hk) ?_
        rw [kpow_sum]
        exact Nat.le_trans (sum_take_le ks j) h.sum
      have ex : fExtT ((kpow (ks.take j) m).map nD) [.lst (List.replicate (Nat.gcd x m) (nD (x / Nat.gcd x m)))] = some (.non, (kpow (ks.take (j + 1)) m).map nD) := by
        unfold fExtT
        simp only
        rw [if_pos (by rw [List.length_map, List.length_replicate]; unfold line; omega), kpow_take hx, List.map_append, List.map_replicate]
      refine ⟨_, ?_, .val (nD x), .val (nD (Nat.gcd x m)), rfl⟩
      simp [y_gcd, y_fdiv g1 g2, mulRep (d := nD (x / Nat.gcd x m)) (n := Nat.gcd x m) (by omega), line]
      rw [ex]
      simp)
  subst hs
  have c0 : (0 : Int) ≤ (m : Int) := by omega
  have c1 : (m : Int) ≤ 1000000000000000000000000000000 := by omega
  refine defP_ret (s' := ⟨[.val (tD ks), .val (nD m), .own ((kpow (ks.take ks.length) m).map nD), v3, v4], (0, 0, 0)⟩) rfl (by decide) ?_
  refine seq_ok (s1 := ⟨[.val (tD ks), .val (nD m), .no, .no, .no], (0, 0, 0)⟩) ?_ (seq_ok (s1 := ⟨[.val (tD ks), .val (nD m), .no, .no, .no], (0, 0, 0)⟩) ?_ (seq_ok (s1 := ⟨[.val (tD ks), .val (nD m), .own [], .no, .no], (0, 0, 0)⟩) ?_ (seq_ok (for_ok (ds := ks.map nD) (s1 := ⟨[.val (tD ks), .val (nD m), .own [], .no, .no], (0, 0, 0)⟩) ?_ e) ?_)))
  · simp [p_check_kind _ h]
  · have q := p_check_number (0, 0, 0) c0 c1
    simp [nD, q]
  · simp
  · simp
  · rw [List.take_length]
    simp [y_sortedR]
    rfl
end Pg
end Eng

/-! pure side: what is drawn -/
namespace Eng
namespace Pg
open PySem PySem.Spec PyProof.Rows L2 Evl Tn
variable [Tb]
/-- a cup in order, after at most so many draws -/
def GoodN (k : Nat) (c : Cup) : Prop := 0 ≤ c.1 ∧ 0 ≤ c.2.1 ∧ c.2.1 < 2147483137 ∧ 0 ≤ c.2.2 ∧ c.2.2 < 2 ^ 60 + (k : Int)
theorem GoodN.of {c : Cup} (h : Good c) : GoodN 0 c := ⟨h.1, h.2.1, h.2.2.1, h.2.2.2.1, by have := h.2.2.2.2; omega⟩
theorem GoodN.le {j k : Nat} {c : Cup} (h : GoodN j c) (e : j ≤ k) : GoodN k c := ⟨h.1, h.2.1, h.2.2.1, h.2.2.2.1, by have := h.2.2.2.2; omega⟩
theorem defC_ret {n ar : Nat} {ss : SS} {c : Cup} {ds : List D} {d : D} {s' : S} (h1 : ds.length = ar) (h2 : ar + 1 ≤ n) (e : ss ⟨.cup :: (ds.map .val ++ List.replicate (n - 1 - ar) .no), c⟩ = .ok (.ret d) s') : defC n ar ss c ds = .ok d s'.cup := by
  rw [defC_def ⟨h1, h2⟩, e]
theorem p_sip {b : Nat} {c : Cup} (g : GoodN b c) (hb : b ≤ 1000000000) {top : Nat} (h1 : 0 < top) (h2 : top ≤ 1000000000) : ∃ r c', f_l_sip c [nD top] = .ok (nD r) c' ∧ r < top ∧ GoodN (b + 1) c' := by
  obtain ⟨a, q, n⟩ := c
  obtain ⟨g1, g2, g3, g4, g5⟩ := g
  simp only at g1 g2 g3 g4 g5
  obtain ⟨a', q', r, e, i1, i2, i3, i4, i5⟩ := sip_pure (top := (top : Int)) g1 g2 g3 g4 (by omega) (by omega) (by omega)
  refine ⟨r.toNat, (a', q', n + 1), ?_, by omega, i1, i2, i3, by simp only; omega, by simp only; omega⟩
  unfold nD
  rw [e, Int.toNat_of_nonneg i4]
@[simp] theorem y_callC (i : Nat) (f : FD) (sa : SA) (s : S) : sCallC i f sa s = match s.env[i]? with
  | some .cup => (sa s).bind fun ds s1 => (match f s1.cup ds with
    | .ok r k => .ok (.dat r) { s1 with cup := k }
    | .exc x k => .exc x { s1 with cup := k }
    | .bad => .bad)
  | _ => .bad := by unfold sCallC; congr 1
/-- one of some things -/
theorem p_of {b : Nat} {c : Cup} (g : GoodN b c) (hb : b ≤ 1000000000) {d : D} {ds : List D} (hd : d = .lst ds ∨ d = .tup ds) (h1 : 0 < ds.length) (h2 : ds.length ≤ 1000000000) : ∃ x c', f_l_of c [d] = .ok x c' ∧ x ∈ ds ∧ GoodN (b + 1) c' := by
  obtain ⟨r, c', e, hr, g'⟩ := p_sip g hb h1 h2
  refine ⟨ds[r], c', ?_, List.getElem_mem hr, g'⟩
  refine defC_ret (s' := ⟨[.cup, .val d], c'⟩) rfl (by decide) ?_
  have ix : ixD d (nD r) = some (.dat ds[r]) := by
    rcases hd with rfl | rfl
    · exact ixLD (List.getElem?_eq_getElem hr)
    · exact ixTD (List.getElem?_eq_getElem hr)
  have ln : lenD d = some (.dat (nD ds.length)) := by
    rcases hd with rfl | rfl <;> rfl
  simp [ss_l_of, ln, e, ix]
theorem p_l_many {b : Nat} {c : Cup} (g : GoodN b c) (hb : b ≤ 1000000000) : ∃ n c', f_l_many c [] = .ok (nD n) c' ∧ 1 ≤ n ∧ n ≤ 24 ∧ GoodN (b + 1) c' := by
  obtain ⟨x, c', e, hx, g'⟩ := p_of g hb (ds := [1, 2, 3, 4, 4, 5, 5, 6, 6, 9, 24].map D.int) (.inl rfl) (by decide) (by decide)
  have : ∃ n : Nat, x = nD n ∧ 1 ≤ n ∧ n ≤ 24 := by
    obtain ⟨z, hz, rfl⟩ := List.mem_map.mp hx
    refine ⟨z.toNat, ?_, ?_⟩
    · simp at hz
      unfold nD
      rw [Int.toNat_of_nonneg (by omega)]
    · simp at hz
      omega
  obtain ⟨n, rfl, h1, h2⟩ := this
  refine ⟨n, c', ?_, h1, h2, g'⟩
  refine defC_ret (s' := ⟨[.cup], c'⟩) rfl (by decide) ?_
  simp only [List.map_cons, List.map_nil] at e
  simp [ss_l_many, line, e]
theorem eraseIdx_map' {α β : Type} (f : α → β) : ∀ (l : List α) (i : Nat), (l.map f).eraseIdx i = (l.eraseIdx i).map f
  | [], _ => rfl
  | a :: l, 0 => rfl
  | a :: l, i + 1 => by
    rw [List.map_cons, List.eraseIdx_cons_succ, List.eraseIdx_cons_succ, List.map_cons, eraseIdx_map' f l i]
theorem eraseIdx_perm' {α : Type} : ∀ (l : List α) (i : Nat) (h : i < l.length), (l[i] :: l.eraseIdx i).Perm l
  | [], _, h => by simp at h
  | a :: l, 0, h => .refl _
  | a :: l, i + 1, h => by
    rw [List.eraseIdx_cons_succ]
    have h' : i < l.length := by simpa using h
    exact (List.Perm.swap _ _ _).trans ((eraseIdx_perm' l i h').cons a)
theorem popAt {L : List Nat} {r : Nat} (h : r < L.length) (hl : L.length ≤ 1000) : fPopAt (L.map nD) [nD r] = some (nD L[r], (L.eraseIdx r).map nD) := by
  unfold fPopAt nD
  simp only
  have hz : -(2 ^ 62 : Int) ≤ 0 := by decide
  rw [if_pos ⟨by omega, by omega⟩, Int.toNat_natCast, List.getElem?_map, List.getElem?_eq_getElem h]
  simp only [Option.map_some, eraseIdx_map']
theorem mut_ok {i : Nat} {f : List D → List D → Option (D × List D)} {sa : SA} {s s2 : S} {as ds ds0 es : List D} {r : D} (h0 : s.env[i]? = some (.own ds0)) (h1 : sa s = .ok as s2) (h2 : s2.env[i]? = some (.own ds)) (h3 : f ds as = some (r, es)) : sMut i f sa s = .ok (.dat r) (setSl s2 i (.own es)) := by
  unfold sMut
  rw [h0]
  show (sa s).bind _ = _
  rw [h1]
  show (match s2.env[i]? with
    | some (.own ds) => (match f ds as with
      | some (r, es) => Res.ok (Vw.dat r) (setSl s2 i (.own es))
      | none => Res.bad)
    | _ => Res.bad) = _
  rw [h2]
  show (match f ds as with
      | some (r, es) => Res.ok (Vw.dat r) (setSl s2 i (.own es))
      | none => Res.bad) = _
  rw [h3]
theorem spin_pop (n : Nat) (v2 : Sl) (L F : List Nat) (c c2 : Cup) (r : Nat) (e : f_l_sip c [nD L.length] = .ok (nD r) c2) (x : Nat) (L' : List Nat) (po : fPopAt (L.map nD) [nD r] = some (nD x, L'.map nD)) : sMut 3 fPopAt (sCons (sCallC 0 f_l_sip (sCons (sOp1 lenD (sVar 3)) (sNil))) (sNil)) ⟨[.cup, .val (nD n), v2, .own (L.map nD), .own (F.map nD)], c⟩ = .ok (.dat (nD x)) ⟨[.cup, .val (nD n), v2, .own (L'.map nD), .own (F.map nD)], c2⟩ := by
  refine (mut_ok (as := [nD r]) (s2 := ⟨[.cup, .val (nD n), v2, .own (L.map nD), .own (F.map nD)], c2⟩) (ds0 := L.map nD) (ds := L.map nD) rfl ?_ rfl po)
  have q : sOp1 lenD (sVar 3) ⟨[.cup, .val (nD n), v2, .own (L.map nD), .own (F.map nD)], c⟩ = .ok (.dat (nD L.length)) ⟨[.cup, .val (nD n), v2, .own (L.map nD), .own (F.map nD)], c⟩ := by simp
  unfold sCallC
  simp [q, e]
theorem p_l_spin {b : Nat} {c : Cup} (g : GoodN b c) (hb : b ≤ 100000000) {n : Nat} (h1 : 1 ≤ n) (h2 : n ≤ 24) : ∃ xs c', f_l_spin c [nD n] = .ok (tD xs) c' ∧ IsTurn xs ∧ xs.length = n ∧ GoodN (b + 24) c' := by
  obtain ⟨s', e, v2, L, F, c', hp, hl, g', hs⟩ := for_range (i := 2) (sb := sDrop (sMut 4 fApp (sCons (sMut 3 fPopAt (sCons (sCallC 0 f_l_sip (sCons (sOp1 lenD (sVar 3)) (sNil))) (sNil))) (sNil))))
    (fun k s => ∃ (v2 : Sl) (L F : List Nat) (c' : Cup), (F ++ L).Perm (List.range n) ∧ F.length = k ∧ GoodN (b + k) c' ∧ s = ⟨[.cup, .val (nD n), v2, .own (L.map nD), .own (F.map nD)], c'⟩) (n := n)
    (s := ⟨[.cup, .val (nD n), .no, .own ((List.range n).map nD), .own []], c⟩) ⟨.no, List.range n, [], c, .refl _, rfl, g, rfl⟩ (fun k s hk ⟨v2, L, F, c', hp, hl, g', hs⟩ => by
      subst hs
      have hlen := hp.length_eq
      rw [List.length_append, hl, List.length_range] at hlen
      obtain ⟨r, c2, e, hr, g2⟩ := p_sip g' (by omega) (top := L.length) (by omega) (by omega)
      have po := popAt hr (by omega)
      have ap := y_app (ds := F.map nD) (d := nD L[r]) (by rw [List.length_map]; unfold line; omega)
      refine ⟨⟨[.cup, .val (nD n), .val (nD k), .own ((L.eraseIdx r).map nD), .own ((F ++ [L[r]]).map nD)], c2⟩, ?_, _, L.eraseIdx r, F ++ [L[r]], c2, ?_, by simp [hl], g2, rfl⟩
      · have m1 := spin_pop n (.val (nD k)) L F c' c2 r e L[r] (L.eraseIdx r) po
        have m2 := mut_ok (i := 4) (f := fApp) (sa := sCons (sMut 3 fPopAt (sCons (sCallC 0 f_l_sip (sCons (sOp1 lenD (sVar 3)) (sNil))) (sNil))) (sNil)) (s := ⟨[.cup, .val (nD n), .val (nD k), .own (L.map nD), .own (F.map nD)], c'⟩) (s2 := ⟨[.cup, .val (nD n), .val (nD k), .own ((L.eraseIdx r).map nD), .own (F.map nD)], c2⟩) (as := [nD L[r]]) (ds0 := F.map nD) (ds := F.map nD) rfl (by simp only [y_cons, m1, x_bind, x_frz, x_nil]) rfl ap
        unfold sDrop
        simp only [y_set, List.set_cons_succ, List.set_cons_zero, m2, x_bind, List.map_append, List.map_cons, List.map_nil]
      · refine List.Perm.trans ?_ hp
        rw [List.append_assoc]
        refine List.Perm.append_left F ?_
        exact eraseIdx_perm' L r hr)
  subst hs
  have hL : L = [] := by
    have := hp.length_eq
    rw [List.length_append, hl, List.length_range] at this
    exact List.length_eq_zero_iff.mp (by omega)
  subst hL
  rw [List.append_nil] at hp
  refine ⟨F, c', ?_, ⟨by omega, by omega, fun x hx => by rw [hl]; exact List.mem_range.mp (hp.mem_iff.mp hx), hp.nodup_iff.mpr List.nodup_range⟩, hl, g'.le (by omega)⟩
  refine defC_ret (s' := ⟨[.cup, .val (nD n), v2, .own [], .own (F.map nD)], c'⟩) rfl (by decide) ?_
  refine seq_ok (s1 := ⟨[.cup, .val (nD n), .no, .own ((List.range n).map nD), .own []], c⟩) ?_ (seq_ok (for_ok (rg1 (n := n) (s1 := ⟨[.cup, .val (nD n), .no, .own ((List.range n).map nD), .own []], c⟩) ?_ (by omega)) e) ?_)
  · simp [lrg1 (sa := sVar 1) (s := ⟨[.cup, .val (nD n), .no, .no, .no], c⟩) (s1 := ⟨[.cup, .val (nD n), .no, .no, .no], c⟩) (n := n) (by simp) (by omega)]
  · simp
  · simp
    rfl
end Pg
end Eng

/-! pure side: repr of data without texts -/
namespace Eng
open PySem PySem.Spec PyProof.Rows L2 Evl
variable [Tb]
/-- all signs are code points -/
def okS (x : Str) : Prop := ∀ c ∈ x.cps.toList, c < 1114112
theorem okS_append {a b : Str} (h1 : okS a) (h2 : okS b) : okS (a ++ b) := by
  intro c hc
  have e : (a ++ b).cps = a.cps ++ b.cps := rfl
  rw [e, Array.toList_append, List.mem_append] at hc
  exact hc.elim (h1 c) (h2 c)
theorem okS_text : ∀ (ts : List Str) (k : Nat) (acc : Str), okS acc → (∀ t ∈ ts, okS t) → okS (textFrom k acc ts)
  | [], _, _, h, _ => h
  | t :: ts, k, acc, h, h2 => by
    unfold textFrom
    refine okS_text ts _ _ (okS_append (okS_append h ?_) (h2 t (.head _))) fun t m => h2 t (.tail _ m)
    split
    · unfold okS; decide
    · unfold okS; decide
theorem okS_join : ∀ ts : List Str, (∀ t ∈ ts, okS t) → okS (Str.join ", " ts)
  | [], _ => by unfold okS; decide
  | [x], h => h x (.head _)
  | x :: y :: r, h => by
    have e : Str.join ", " (x :: y :: r) = x ++ ", " ++ Str.join ", " (y :: r) := rfl
    rw [e]
    exact okS_append (okS_append (h x (.head _)) (by unfold okS; decide)) (okS_join (y :: r) fun t m => h t (.tail _ m))
theorem okS_int (i : Int) : okS (PyData.int i).shown := by
  intro c hc
  apply Classical.byContradiction
  intro hn
  exact shown_int_free' (k := c) ⟨by omega, by omega⟩ i hc
theorem okS_bool (b : Bool) : okS (PyData.bool b).shown := by
  cases b <;> (unfold okS; decide)
theorem okS_list {ps : List PyData} (h : ∀ t ∈ PyData.shownAll ps, okS t) : okS (PyData.list ps).shown := by
  have e : (PyData.list ps).shown = listText (PyData.shownAll ps) := rfl
  rw [e]
  exact okS_append (okS_text _ _ _ (by unfold okS; decide) h) (by unfold okS; decide)
theorem okS_tuple {ps : List PyData} (h : ∀ t ∈ PyData.shownAll ps, okS t) : okS (PyData.tuple ps).shown := by
  have e : (PyData.tuple ps).shown = tupleText (PyData.shownAll ps) := rfl
  rw [e]
  unfold tupleText
  refine okS_append (okS_append (by unfold okS; decide) (okS_join _ h)) ?_
  split
  · unfold okS; decide
  · unfold okS; decide
/-- data whose repr can be told: its depth, its weight -/
structure Rp (d : D) (p : PyData) (k w : Nat) : Prop where
  py : d.py = some p
  sh : PyData.showable p = true
  hd : PyData.hasDict p = false
  dep : p.depth ≤ k
  wt : p.weight ≤ w
  ls : p.leavesShort 40 = true
  ok : okS p.shown
structure Rps (ds : List D) (ps : List PyData) (k w : Nat) : Prop where
  py : D.pys ds = some ps
  sh : PyData.showableAll ps = true
  hd : PyData.hasDictAll ps = false
  dep : PyData.depthAll ps ≤ k
  wt : PyData.weightAll ps ≤ w
  ls : PyData.leavesShortAll 40 ps = true
  ok : ∀ t ∈ PyData.shownAll ps, okS t
theorem Rps.nil {k w : Nat} : Rps [] [] k w := ⟨rfl, rfl, rfl, Nat.zero_le _, Nat.zero_le _, rfl, fun _ h => nomatch h⟩
theorem Rps.cons {d : D} {p : PyData} {ds : List D} {ps : List PyData} {k w w2 : Nat} (h : Rp d p k w) (h2 : Rps ds ps k w2) : Rps (d :: ds) (p :: ps) k (w + 1 + w2) where
  py := by simp only [D.pys, h.py, h2.py]
  sh := by simp only [PyData.showableAll, h.sh, h2.sh, Bool.and_self]
  hd := by simp only [PyData.hasDictAll, h.hd, h2.hd, Bool.or_self]
  dep := by simp only [PyData.depthAll]; have := h.dep; have := h2.dep; omega
  wt := by simp only [PyData.weightAll]; have := h.wt; have := h2.wt; omega
  ls := by simp only [PyData.leavesShortAll, h.ls, h2.ls, Bool.and_self]
  ok := by
    intro t ht
    simp only [PyData.shownAll, List.mem_cons] at ht
    rcases ht with rfl | ht
    · exact h.ok
    · exact h2.ok t ht
theorem Rps.map {α : Type} {f : α → D} {g : α → PyData} {k w : Nat} : ∀ {xs : List α}, (∀ x ∈ xs, Rp (f x) (g x) k w) → Rps (xs.map f) (xs.map g) k (xs.length * (w + 1))
  | [], _ => .nil
  | x :: xs, h => by
    have a := Rps.cons (h x (.head _)) (Rps.map (xs := xs) fun y m => h y (.tail _ m))
    rw [List.map_cons, List.map_cons, List.length_cons, Nat.succ_mul]
    exact ⟨a.py, a.sh, a.hd, a.dep, by have := a.wt; omega, a.ls, a.ok⟩
theorem Rps.tup {ds : List D} {ps : List PyData} {k w : Nat} (h : Rps ds ps k w) : Rp (.tup ds) (.tuple ps) (k + 1) w where
  py := by simp only [D.py, h.py, Option.map_some]
  sh := by simp only [PyData.showable, h.sh]
  hd := by simp only [PyData.hasDict, h.hd]
  dep := by simp only [PyData.depth]; have := h.dep; omega
  wt := by simp only [PyData.weight]; exact h.wt
  ls := by simp only [PyData.leavesShort, h.ls]
  ok := okS_tuple h.ok
theorem Rps.lst {ds : List D} {ps : List PyData} {k w : Nat} (h : Rps ds ps k w) : Rp (.lst ds) (.list ps) (k + 1) w where
  py := by simp only [D.py, h.py, Option.map_some]
  sh := by simp only [PyData.showable, h.sh]
  hd := by simp only [PyData.hasDict, h.hd]
  dep := by simp only [PyData.depth]; have := h.dep; omega
  wt := by simp only [PyData.weight]; exact h.wt
  ls := by simp only [PyData.leavesShort, h.ls]
  ok := okS_list h.ok
theorem Rp.le {d : D} {p : PyData} {k w k2 w2 : Nat} (h : Rp d p k w) (e1 : k ≤ k2) (e2 : w ≤ w2) : Rp d p k2 w2 := ⟨h.py, h.sh, h.hd, Nat.le_trans h.dep e1, Nat.le_trans h.wt e2, h.ls, h.ok⟩
theorem Rp.int {i : Int} (h : i.natAbs < 10 ^ 39) (k : Nat) : Rp (.int i) (.int i) k 140 where
  py := rfl
  sh := by
    have e : (10 : Nat) ^ 39 < 2 ^ 139 := by decide
    have : i.natAbs.log2 < 139 := by
      by_cases z : i.natAbs = 0
      · rw [z]; decide
      · exact (Nat.log2_lt z).mpr (Nat.lt_trans h e)
    simp only [PyData.showable]
    exact decide_eq_true (by omega)
  hd := rfl
  dep := Nat.zero_le _
  wt := by
    have e : (10 : Nat) ^ 39 < 2 ^ 139 := by decide
    have : i.natAbs.log2 < 139 := by
      by_cases z : i.natAbs = 0
      · rw [z]; decide
      · exact (Nat.log2_lt z).mpr (Nat.lt_trans h e)
    simp only [PyData.weight]
    split <;> omega
  ls := by
    simp only [PyData.leavesShort]
    refine decide_eq_true ?_
    have e := int_text_length_le10 (k := 39) (by decide) h
    rw [PyData.shown_int, PySem.ofString_length]
    exact e
  ok := okS_int i
theorem Rp.bl (b : Bool) (k : Nat) : Rp (.bl b) (.bool b) k 0 := ⟨rfl, rfl, rfl, Nat.zero_le _, Nat.zero_le _, rfl, okS_bool b⟩
theorem Rp.nat {n : Nat} (h : n < 1000000000) (k : Nat) : Rp (nD n) (.int n) k 140 := Rp.int (Nat.lt_trans (show ((n : Int)).natAbs < 10 ^ 10 by rw [Int.natAbs_natCast]; omega) (by decide)) k
theorem Rp.tD {xs : List Nat} (h : ∀ x ∈ xs, x < 1000000000) (h2 : xs.length ≤ 24) (k : Nat) (hk : 1 ≤ k) : Rp (tD xs) (.tuple (xs.map fun x : Nat => PyData.int (x : Int))) k 4000 := by
  obtain ⟨k, rfl⟩ : ∃ j, k = j + 1 := ⟨k - 1, by omega⟩
  have a : Rps (xs.map nD) (xs.map fun x : Nat => PyData.int (x : Int)) k (xs.length * (140 + 1)) := Rps.map fun x hx => Rp.nat (h x hx) k
  exact (Rps.tup a).le (Nat.le_refl _) (by omega)
/-- repr, and that it is the same text -/
theorem Rp.repr {ds : List D} {d : D} (hd : d = .lst ds ∨ d = .tup ds) {p : PyData} {k w : Nat} (h : Rp d p k w) (hk : k ≤ 60) (hw : w ≤ 20000) : ∃ s, reprD d = some (.dat (.str s)) ∧ neD (.str s) (.str s) = some (.dat (.bl false)) ∧ eqD (.str s) (.str s) = some (.dat (.bl true)) := by
  have hl : p.shown.length ≤ line := by
    have a := PyData.shown_le 40 (by decide) p h.ls
    have b := h.wt
    have c : (40 + 2) * p.weight ≤ 42 * 20000 := Nat.mul_le_mul (by omega) (by omega)
    unfold line
    omega
  have cond : PyData.showable p = true ∧ PyData.hasDict p = false ∧ p.depth ≤ 60 ∧ p.shown.length ≤ line := ⟨h.sh, h.hd, Nat.le_trans h.dep hk, hl⟩
  have q : eqv? (.str p.shown) (.str p.shown) = some true := by
    have ok : PyData.strOk p.shown = true := by
      unfold PyData.strOk
      rw [Array.all_eq_true']
      intro c hc
      exact decide_eq_true (h.ok c (Array.mem_toList_iff.mpr hc))
    unfold eqv?
    simp only [D.py]
    have s : SeqAt.shaped (.str p.shown) = true := by
      unfold SeqAt.shaped
      simp [PyData.canLay0, ok, PyData.depth]
    rw [if_pos ⟨s, s⟩]
    simp [PyData.eqv]
  refine ⟨p.shown, ?_, by unfold neD; rw [q]; rfl, by unfold eqD; rw [q]; rfl⟩
  rcases hd with rfl | rfl
  · unfold reprD
    simp only [h.py, Option.bind_some]
    rw [if_pos cond]
  · unfold reprD
    simp only [h.py, Option.bind_some]
    rw [if_pos cond]
end Eng

/-! k03, pure side: parts -/
namespace Eng
namespace Pg
open PySem PySem.Spec PyProof.Rows L2 Evl Tn
variable [Tb]
@[simp] theorem x_negN (a : Nat) : negD (nD a) = some (.dat (.int (-(a : Int)))) := id rfl
theorem y_abs (z : Int) : absD (.int z) = some (.dat (nD z.natAbs)) := by
  have h : (if z < 0 then -z else z) = (z.natAbs : Int) := by split <;> omega
  unfold absD nD
  simp only [h]
theorem log100 {z : Int} (h : z.natAbs < 2 ^ 100) : z.natAbs.log2 < 100 := by
  by_cases e : z.natAbs = 0
  · rw [e]; decide
  · exact (Nat.log2_lt e).mpr h
theorem y_mul {i j : Int} (h : i.natAbs < 2 ^ 100) (h2 : j.natAbs < 2 ^ 100) : mulD (.int i) (.int j) = some (.dat (.int (i * j))) := mulD_int (by
  have := log100 h
  have := log100 h2
  omega)
theorem y_pow10 (k : Nat) (h : k ≤ 40) : powD (.int 10) (.int (k : Int)) = some (.dat (.int (10 ^ k))) := by
  unfold powD iopC
  simp only
  rw [if_pos ⟨by omega, by omega, by decide⟩, Int.toNat_natCast]
theorem y_pow9 : powD (.int 10) (.int 9) = some (.dat (.int 1000000000)) := y_pow10 9 (by decide)
theorem y_pow12 : powD (.int 10) (.int 12) = some (.dat (.int 1000000000000)) := y_pow10 12 (by decide)
theorem y_pow28 : powD (.int 10) (.int 28) = some (.dat (.int 10000000000000000000000000000)) := y_pow10 28 (by decide)
theorem y_pow30 : powD (.int 10) (.int 30) = some (.dat (.int 1000000000000000000000000000000)) := y_pow10 30 (by decide)
theorem p_l_amount {b : Nat} {c : Cup} (g : GoodN b c) (hb : b ≤ 100000000) : ∃ z c', f_l_amount c [] = .ok (.int z) c' ∧ -1000000000000000000000000000000 ≤ z ∧ z ≤ 1000000000000000000000000000000 ∧ GoodN (b + 3) c' := by
  obtain ⟨r, c1, e1, hr, g1⟩ := p_sip g (by omega) (top := 1000000000) (by decide) (by decide)
  obtain ⟨x, c2, e2, hx, g2⟩ := p_of g1 (by omega) (ds := [.int 0, .int 1, .int 2, .int 3, .int 5, .int 6, .int 12, .int 60, .int 1000000000000, .int 1000000000000000000000000000000, .int (999999999999999999999999999999 - (r : Int))]) (.inl rfl) (by simp) (by simp)
  obtain ⟨q, c3, e3, hq, g3⟩ := p_sip g2 (by omega) (top := 2) (by decide) (by decide)
  have hx2 : ∃ z : Int, x = .int z ∧ 0 ≤ z ∧ z ≤ 1000000000000000000000000000000 := by
    simp only [List.mem_cons, List.not_mem_nil, or_false] at hx
    rcases hx with h | h | h | h | h | h | h | h | h | h | h <;> exact ⟨_, h, by omega, by omega⟩
  obtain ⟨z, rfl, hz0, hz1⟩ := hx2
  have hn : z.natAbs < 2 ^ 100 := by
    have : z.natAbs ≤ 1000000000000000000000000000000 := by omega
    exact Nat.lt_of_le_of_lt this (by decide)
  have m1 := y_mul (i := z) (j := 1) hn (by decide)
  have m2 := y_mul (i := z) (j := -1) hn (by decide)
  refine ⟨if q = 0 then z * 1 else z * -1, c3, ?_, by split <;> omega, by split <;> omega, g3⟩
  refine defC_ret (s' := ⟨[.cup, .val (.lst [.int 0, .int 1, .int 2, .int 3, .int 5, .int 6, .int 12, .int 60, .int 1000000000000, .int 1000000000000000000000000000000, .int (999999999999999999999999999999 - (r : Int))])], c3⟩) rfl (by decide) ?_
  have e1' : f_l_sip c [.int 1000000000] = .ok (nD r) c1 := e1
  have e3' : f_l_sip c2 [.int 2] = .ok (nD q) c3 := e3
  refine seq_ok (s1 := ⟨[.cup, .own [.int 0, .int 1, .int 2, .int 3, .int 5, .int 6, .int 12, .int 60, .int 1000000000000, .int 1000000000000000000000000000000, .int (999999999999999999999999999999 - (r : Int))]], c1⟩) ?_ ?_
  · simp [y_pow9, y_pow12, y_pow30, e1', line]
  · by_cases h : q = 0
    · subst h
      simp [e2, e3', m1]
    · have h' : ¬ (q : Int) = 0 := by omega
      simp [e2, e3', m2, h, h']
section
variable {xs : List Nat}
theorem p_powerN (c : Cup) (T : IsTurn xs) {m : Nat} (h : m ≤ 1000000000000000000000000000000) : f_power c [tD xs, nD m] = .ok (tD (powI xs m)) (0, 0, 0) := p_power c T (by omega) (by omega)
theorem kind_pow_eq (T : IsTurn xs) (z : Int) : kN (lens (powI xs z)) = kN (kpow (kN (lens xs)) z.natAbs) :=
  kN_eq ((T.lens_powI z).trans (kpow_perm _ (kN_perm _).symm))
def B1 : SS := (sSeq (sAsg 11 (sCall f_l_times (sCons (sVar 1) (sCons (sVar 3) (sNil))))) (sSeq (sIfS (sOr (sB (sOp2 neD (sCall f_power (sCons (sVar 1) (sCons (sVar 3) (sNil)))) (sVar 11))) (sB (sOp2 neD (sCallK true f_power (sCons (sOp1 negD (sVar 3)) (sCons (sVar 1) (sNil)))) (sCall f_back (sCons (sVar 11) (sNil)))))) (sRet (sC (.bl false))) (sNext)) (sIfS (sB (sOp2 neD (sCall f_kind_of (sCons (sVar 11) (sNil))) (sCall f_kind_power (sCons (sCall f_kind_of (sCons (sVar 1) (sNil))) (sCons (sVar 3) (sNil)))))) (sRet (sC (.bl false))) (sNext))))
theorem b1_run (T : IsTurn xs) {m : Nat} (hm : m ≤ 100) (c : Cup) (v2 v4 v5 v6 v7 v8 v9 v10 v11 v12 v13 v14 : Sl) :
    B1 ⟨[.cup, .val (tD xs), v2, .val (nD m), v4, v5, v6, v7, v8, v9, v10, v11, v12, v13, v14], c⟩ = .ok .next ⟨[.cup, .val (tD xs), v2, .val (nD m), v4, v5, v6, v7, v8, v9, v10, .val (tD (powI xs m)), v12, v13, v14], c⟩ := by
  have P := T.powI m
  have k := kind_pow_eq T m
  rw [Int.natAbs_natCast] at k
  refine seq_ok (s1 := ⟨[.cup, .val (tD xs), v2, .val (nD m), v4, v5, v6, v7, v8, v9, v10, .val (tD (powI xs m)), v12, v13, v14], c⟩) ?_ (seq_ok (s1 := ⟨[.cup, .val (tD xs), v2, .val (nD m), v4, v5, v6, v7, v8, v9, v10, .val (tD (powI xs m)), v12, v13, v14], c⟩) ?_ ?_)
  · simp [p_l_times _ T (m := m) (by omega)]
  · simp [p_powerN _ T (m := m) (by omega), p_power _ T (z := -(m : Int)) (by omega) (by omega), p_back _ P, T.back_powI]
  · simp [p_kind_of _ P, p_kind_of _ T, p_kind_power _ (lens_kind T) (m := m) (by omega), k]
def B2 : SS := (sSeq (sIfS (sOr (sB (sOp2 neD (sCall f_power (sCons (sVar 1) (sCons (sVar 4) (sNil)))) (sCall f_l_by_rest (sCons (sVar 1) (sCons (sVar 4) (sNil)))))) (sB (sOp2 neD (sCall f_power (sCons (sVar 1) (sCons (sOp1 negD (sVar 4)) (sNil)))) (sCall f_power (sCons (sCall f_back (sCons (sVar 1) (sNil))) (sCons (sVar 4) (sNil))))))) (sRet (sC (.bl false))) (sNext)) (sIfS (sB (sOp2 neD (sCall f_kind_power (sCons (sCall f_kind_of (sCons (sVar 1) (sNil))) (sCons (sOp1 absD (sVar 4)) (sNil)))) (sCall f_kind_of (sCons (sCall f_power (sCons (sVar 1) (sCons (sVar 4) (sNil)))) (sNil))))) (sRet (sC (.bl false))) (sNext)))
theorem b2_run (T : IsTurn xs) {z : Int} (h1 : -1000000000000000000000000000000 ≤ z) (h2 : z ≤ 1000000000000000000000000000000) (c : Cup) (v2 v3 v5 v6 v7 v8 v9 v10 v11 v12 v13 v14 : Sl) :
    B2 ⟨[.cup, .val (tD xs), v2, v3, .val (.int z), v5, v6, v7, v8, v9, v10, v11, v12, v13, v14], c⟩ = .ok .next ⟨[.cup, .val (tD xs), v2, v3, .val (.int z), v5, v6, v7, v8, v9, v10, v11, v12, v13, v14], c⟩ := by
  have P := T.powI z
  have k := kind_pow_eq T z
  refine seq_ok (s1 := ⟨[.cup, .val (tD xs), v2, v3, .val (.int z), v5, v6, v7, v8, v9, v10, v11, v12, v13, v14], c⟩) ?_ ?_
  · simp [p_power _ T (z := z) h1 h2, p_power _ T (z := -z) (by omega) (by omega), p_l_by_rest _ T, p_back _ T, p_power _ T.back (z := z) h1 h2, T.powI_back]
  · simp [p_kind_of _ P, p_kind_of _ T, p_power _ T (z := z) h1 h2, y_abs, p_kind_power _ (lens_kind T) (m := z.natAbs) (by omega), k]
end
end Pg
end Eng

/-! a divisor of lcm(1..24), its primes taken out -/
namespace Tn
def primes23 : List Nat := [2, 3, 5, 7, 11, 13, 17, 19, 23]
def stp (p l : Nat) : Nat := if l % p = 0 then l / p else l
def strip (p : Nat) : Nat → Nat → Nat
  | 0, l => l
  | k + 1, l => strip p k (stp p l)
theorem stp_dvd (p l : Nat) : stp p l ∣ l := by
  unfold stp
  split
  · rename_i h
    exact Nat.div_dvd_of_dvd (Nat.dvd_of_mod_eq_zero h)
  · exact Nat.dvd_refl l
theorem stp_pos {p l : Nat} (h : 1 ≤ l) : 1 ≤ stp p l := Nat.pos_of_dvd_of_pos (stp_dvd p l) h
theorem stp_back {p l : Nat} (h : p ∣ stp p l) : l = p * stp p l := by
  unfold stp at h ⊢
  split
  · rename_i z
    exact (Nat.mul_div_cancel' (Nat.dvd_of_mod_eq_zero z)).symm
  · rename_i z
    rw [if_neg z] at h
    exact absurd (Nat.mod_eq_zero_of_dvd h) z
theorem strip_dvd (p : Nat) : ∀ k l, strip p k l ∣ l
  | 0, l => Nat.dvd_refl l
  | k + 1, l => Nat.dvd_trans (strip_dvd p k (stp p l)) (stp_dvd p l)
theorem strip_back {p : Nat} : ∀ {k l : Nat}, p ∣ strip p k l → p ^ k * strip p k l = l ∧ p ∣ l
  | 0, l, h => ⟨by simp [strip], h⟩
  | k + 1, l, h => by
    obtain ⟨a, b⟩ := strip_back (k := k) (l := stp p l) h
    have c := stp_back b
    refine ⟨?_, c ▸ Nat.dvd_mul_right p _⟩
    show p ^ (k + 1) * strip p k (stp p l) = l
    rw [Nat.pow_succ, Nat.mul_right_comm, a, Nat.mul_comm, ← c]
theorem strip_not {p l : Nat} (hp : p ∈ primes23) (hl : l ∣ big) : ¬ p ∣ strip p 5 l := by
  intro h
  have e := (strip_back h).1
  have : p ^ 5 ∣ big := Nat.dvd_trans ⟨_, e.symm⟩ hl
  have no : ∀ q ∈ primes23, ¬ q ^ 5 ∣ big := by decide
  exact no p hp this
theorem prime_coprime {p l : Nat} (hp : p ∈ primes23) (h : ¬ p ∣ l) : Nat.Coprime l p := by
  have key : ∀ q ∈ primes23, ∀ d : Fin 24, d.val ∣ q → d.val = 1 ∨ d.val = q := by decide
  have le : ∀ q ∈ primes23, 1 ≤ q ∧ q ≤ 23 := by decide
  have h1 := Nat.gcd_dvd_right l p
  have h2 : Nat.gcd l p ≤ 23 := Nat.le_trans (Nat.le_of_dvd (le p hp).1 h1) (le p hp).2
  rcases key p hp ⟨Nat.gcd l p, by omega⟩ h1 with e | e
  · exact e
  · exact absurd (e ▸ Nat.gcd_dvd_left l p) h
def stripAll (ps : List Nat) (l : Nat) : Nat := ps.foldl (fun l p => strip p 5 l) l
theorem stripAll_dvd : ∀ (ps : List Nat) (l : Nat), stripAll ps l ∣ l
  | [], l => Nat.dvd_refl l
  | p :: ps, l => Nat.dvd_trans (stripAll_dvd ps (strip p 5 l)) (strip_dvd p 5 l)
theorem stripAll_not : ∀ (ps : List Nat) (l : Nat), (∀ p ∈ ps, p ∈ primes23) → l ∣ big → ∀ p ∈ ps, ¬ p ∣ stripAll ps l
  | q :: ps, l, h, hl, p, hp => by
    show ¬ p ∣ stripAll ps (strip q 5 l)
    have hl2 : strip q 5 l ∣ big := Nat.dvd_trans (strip_dvd q 5 l) hl
    rcases List.mem_cons.mp hp with e | e
    · subst e
      intro z
      exact strip_not (h p (.head _)) hl (Nat.dvd_trans z (stripAll_dvd ps _))
    · exact stripAll_not ps _ (fun r hr => h r (.tail _ hr)) hl2 p e
theorem strip_one {L : Nat} (h1 : 1 ≤ L) (hL : L ∣ big) : stripAll (primes23.filter fun p => decide (L % p = 0)) L = 1 := by
  generalize hl : stripAll (primes23.filter fun p => decide (L % p = 0)) L = l
  have d1 : l ∣ L := hl ▸ stripAll_dvd _ L
  have nd : ∀ p ∈ primes23, ¬ p ∣ l := by
    intro p hp z
    have hpL : p ∣ L := Nat.dvd_trans z d1
    have hm : p ∈ primes23.filter fun p => decide (L % p = 0) := List.mem_filter.mpr ⟨hp, by simpa using Nat.mod_eq_zero_of_dvd hpL⟩
    exact stripAll_not _ L (fun q hq => (List.mem_filter.mp hq).1) hL p hm (by rw [hl]; exact z)
  have c : ∀ p ∈ primes23, Nat.Coprime l p := fun p hp => prime_coprime hp (nd p hp)
  have e : big = 2 ^ 4 * (3 ^ 2 * (5 ^ 1 * (7 * (11 * (13 * (17 * (19 * 23))))))) := by decide
  have cb : Nat.Coprime l big := by
    rw [e]
    refine Nat.Coprime.mul_right ((c 2 (by decide)).pow_right 4) (Nat.Coprime.mul_right ((c 3 (by decide)).pow_right 2) (Nat.Coprime.mul_right ((c 5 (by decide)).pow_right 1) (Nat.Coprime.mul_right (c 7 (by decide)) (Nat.Coprime.mul_right (c 11 (by decide)) (Nat.Coprime.mul_right (c 13 (by decide)) (Nat.Coprime.mul_right (c 17 (by decide)) (Nat.Coprime.mul_right (c 19 (by decide)) (c 23 (by decide)))))))))
  exact Nat.Coprime.eq_one_of_dvd cb (Nat.dvd_trans d1 hL)
end Tn

/-! k03, pure side -/
namespace Eng
open PySem PySem.Spec PyProof.Rows L2 Evl
variable [Tb]
/-- a comprehension of one name with a condition -/
theorem lcL_fm {i : Nat} {st : SB} {se : SE} {p : D → Bool} {g : D → D} {s : S} (hf : freeV s.env [i] = true) (hb : (s.env[i]?).isSome = true) :
    ∀ (ds acc : List D), (∀ d ∈ ds, st ⟨s.env.set i (.val d), s.cup⟩ = .ok (p d) ⟨s.env.set i (.val d), s.cup⟩) → (∀ d ∈ ds, se ⟨s.env.set i (.val d), s.cup⟩ = .ok (.dat (g d)) ⟨s.env.set i (.val d), s.cup⟩) → acc.length + ds.length ≤ line → lcL (sgName i) st se [i] ds acc s = .ok (.fr (acc ++ (ds.filter p).map g)) s
  | [], acc, _, _, _ => by simp [lcL]
  | d :: ds, acc, h0, h, hl => by
    have e1 : sgName i d (wipeS s [i]) = some ⟨s.env.set i (.val d), s.cup⟩ := by
      show some (setSl ⟨s.env.set i .no, s.cup⟩ i (.val d)) = _
      simp [setSl, List.set_set]
    have e2 : unwipeS s ⟨s.env.set i (.val d), s.cup⟩ [i] = s := by
      unfold unwipeS
      simp only [unwipeE]
      cases z : s.env[i]? with
      | none => rw [z] at hb; cases hb
      | some sl =>
        simp only [List.set_set]
        have hi : i < s.env.length := (List.getElem?_eq_some_iff.mp z).1
        have : s.env.set i sl = s.env := by
          apply List.ext_getElem?
          intro j
          rw [List.getElem?_set]
          split
          · rename_i e; subst e; first | rw [if_pos hi, z] | exact z.symm
          · rfl
        rw [this]
    unfold lcL
    rw [if_pos hf, e1]
    rw [List.length_cons] at hl
    cases hp : p d with
    | false =>
      have := h0 d (.head _)
      rw [hp] at this
      simp only [this, Res.noX, Res.bind, e2]
      rw [lcL_fm hf hb ds acc (fun d' m => h0 d' (.tail _ m)) (fun d' m => h d' (.tail _ m)) (by omega)]
      simp [hp]
    | true =>
      have := h0 d (.head _)
      rw [hp] at this
      simp only [this, Res.noX, Res.bind, h d (.head _), frz]
      rw [if_pos (by omega), e2, lcL_fm hf hb ds (acc ++ [g d]) (fun d' m => h0 d' (.tail _ m)) (fun d' m => h d' (.tail _ m)) (by rw [List.length_append]; simp only [List.length_cons, List.length_nil]; omega)]
      simp [hp]
namespace Pg
open Tn
theorem y_modN {a b : Nat} (h : 0 < b) : modD (nD a) (nD b) = some (.dat (nD (a % b))) := by
  unfold nD
  rw [y_modP _ _ (by omega)]
  rfl
section
variable {xs : List Nat}
/-- the last part: parts, the two loops -/
def B3 : SS := (sIfS (sB (sOp2 eqD (sCall f_power (sCons (sVar 1) (sCons (sOp2 fdivD (sVar 7) (sVar 10)) (sNil)))) (sVar 2))) (sRet (sC (.bl false))) (sNext))
def B4 : SS := (sFor (siRange1 (sCons (sC (.int 5)) (sNil))) (sgName 14) (sAsg 9 (sIf (sB (sOp2 eqD (sOp2 modD (sOp1 intD (sVar 9)) (sVar 10)) (sC (.int 0)))) (sOp2 fdivD (sVar 9) (sVar 10)) (sVar 9))))
abbrev rd (xs : List Nat) : Nat := lcmL (lens xs)
theorem rd_pos (xs : List Nat) : 1 ≤ rd xs := lcmL_pos fun _ => lens_pos
theorem rd_lt (T : IsTurn xs) : rd xs < 2 ^ 60 := by
  have := lcm_take_lt (ks := lens xs) (by rw [T.lens_sum]; exact T.hi) (lens xs).length
  rwa [List.take_length] at this
theorem b3_run (T : IsTurn xs) {p : Nat} (hp : p ∈ primes23) (hd : rd xs % p = 0) (c : Cup) (v3 v4 v5 v6 v8 v9 v11 v12 v13 v14 : Sl) :
    B3 ⟨[.cup, .val (tD xs), .val (tD (still xs.length)), v3, v4, v5, v6, .val (nD (rd xs)), v8, v9, .val (nD p), v11, v12, v13, v14], c⟩ = .ok .next ⟨[.cup, .val (tD xs), .val (tD (still xs.length)), v3, v4, v5, v6, .val (nD (rd xs)), v8, v9, .val (nD p), v11, v12, v13, v14], c⟩ := by
  have le : ∀ q ∈ primes23, 2 ≤ q ∧ q ≤ 23 := by decide
  obtain ⟨p2, p23⟩ := le p hp
  have r1 := rd_pos xs
  have rl := rd_lt T
  have lt : rd xs / p < rd xs := Nat.div_lt_self r1 p2
  have pos : 0 < rd xs / p := Nat.div_pos (Nat.le_of_dvd r1 (Nat.dvd_of_mod_eq_zero hd)) (by omega)
  have ne : ¬ powI xs ((rd xs / p : Nat) : Int) = still xs.length := by
    intro e
    have := T.powI_still.mp e
    rw [Int.natAbs_natCast] at this
    have := Nat.le_of_dvd pos this
    have : rd xs = lcmL (lens xs) := rfl
    omega
  have q := p_powerN (0, 0, 0) T (m := rd xs / p) (by omega)
  have ed : eqD (tD (powI xs ((rd xs / p : Nat) : Int))) (tD (still xs.length)) = some (.dat (.bl false)) := by
    rw [x_eqT]
    simp only [ne, decide_false]
  have ne' : ¬ powI xs ((rd xs : Int) / (p : Int)) = still xs.length := by rw [← Int.natCast_ediv]; exact ne
  unfold B3
  simp [y_fdiv (a := rd xs) (b := p) (by omega) (by omega), q, ne']
theorem b4_run {p l : Nat} (hp : p ∈ primes23) (c : Cup) (v1 v2 v3 v4 v5 v6 v7 v8 v11 v12 v13 v14 : Sl) :
    ∃ v14', B4 ⟨[.cup, v1, v2, v3, v4, v5, v6, v7, v8, .val (nD l), .val (nD p), v11, v12, v13, v14], c⟩ = .ok .next ⟨[.cup, v1, v2, v3, v4, v5, v6, v7, v8, .val (nD (strip p 5 l)), .val (nD p), v11, v12, v13, v14'], c⟩ := by
  have le : ∀ q ∈ primes23, 2 ≤ q ∧ q ≤ 23 := by decide
  obtain ⟨p2, p23⟩ := le p hp
  have snoc : ∀ (k l : Nat), strip p (k + 1) l = stp p (strip p k l) := by
    intro k
    induction k with
    | zero => intro l; rfl
    | succ k ih => intro l; exact ih (stp p l)
  obtain ⟨s', e, v14', hs⟩ := for_range (i := 14) (sb := sAsg 9 (sIf (sB (sOp2 eqD (sOp2 modD (sOp1 intD (sVar 9)) (sVar 10)) (sC (.int 0)))) (sOp2 fdivD (sVar 9) (sVar 10)) (sVar 9))) (fun k s => ∃ v14, s = ⟨[.cup, v1, v2, v3, v4, v5, v6, v7, v8, .val (nD (strip p k l)), .val (nD p), v11, v12, v13, v14], c⟩) (n := 5)
    (s := ⟨[.cup, v1, v2, v3, v4, v5, v6, v7, v8, .val (nD l), .val (nD p), v11, v12, v13, v14], c⟩) ⟨v14, rfl⟩ (fun k s hk ⟨v14, hs⟩ => by
      subst hs
      refine ⟨_, ?_, .val (nD k), rfl⟩
      rw [snoc]
      unfold stp
      by_cases h : strip p k l % p = 0
      · rw [if_pos h]
        simp [y_modN (a := strip p k l) (b := p) (by omega), y_fdiv (a := strip p k l) (b := p) (by omega) (by omega), h]
      · rw [if_neg h]
        have h' : ¬ ((strip p k l % p : Nat) : Int) = 0 := by omega
        simp [y_modN (a := strip p k l) (b := p) (by omega), y_fdiv (a := strip p k l) (b := p) (by omega) (by omega)]
        simp only [Int.natCast_emod] at h'
        simp [h'])
  subst hs
  refine ⟨v14', ?_⟩
  exact for_ok (rg1 (n := 5) (by simp [nD]) (by decide)) e
end
end Pg
end Eng

/-! crossings counted, and even turns -/
namespace Tn
/-- what is summed over all pairs of a list, the one ahead of the other -/
def ps (f : Nat → Nat → Nat) : List Nat → Nat
  | [] => 0
  | x :: l => (l.map (f x)).sum + ps f l
theorem perm_sum {l m : List Nat} (h : l.Perm m) : l.sum = m.sum := h.sum_nat
theorem ps_perm {f : Nat → Nat → Nat} (hs : ∀ a b, f a b = f b a) : ∀ {l m : List Nat}, l.Perm m → ps f l = ps f m := by
  intro l m h
  induction h with
  | nil => rfl
  | cons x h ih => simp only [ps]; rw [ih, perm_sum (h.map (f x))]
  | swap x y l =>
    simp only [ps, List.map_cons, List.sum_cons]
    rw [hs y x]
    omega
  | trans _ _ h1 h2 => exact h1.trans h2
theorem ps_congr {f g : Nat → Nat → Nat} : ∀ {l : List Nat}, l.Pairwise (fun a b => f a b = g a b) → ps f l = ps g l
  | [], _ => rfl
  | x :: l, h => by
    have h1 := List.pairwise_cons.mp h
    simp only [ps]
    rw [ps_congr h1.2, List.map_congr_left (g := g x) fun a ha => h1.1 a ha]
theorem ps_map {f : Nat → Nat → Nat} {g : Nat → Nat} : ∀ l : List Nat, ps f (l.map g) = ps (fun a b => f (g a) (g b)) l
  | [] => rfl
  | x :: l => by
    simp only [ps, List.map_cons, List.map_map]
    rw [ps_map l]
    rfl
theorem sum_add {f g : Nat → Nat} : ∀ l : List Nat, (l.map fun a => f a + g a).sum = (l.map f).sum + (l.map g).sum
  | [] => rfl
  | x :: l => by
    simp only [List.map_cons, List.sum_cons]
    rw [sum_add l]
    omega
theorem ps_add {f g : Nat → Nat → Nat} : ∀ l : List Nat, ps (fun a b => f a b + g a b) l = ps f l + ps g l
  | [] => rfl
  | x :: l => by
    simp only [ps]
    rw [ps_add l, sum_add]
    omega
theorem sum_mod {f g : Nat → Nat} : ∀ {l : List Nat}, (∀ a ∈ l, f a % 2 = g a % 2) → (l.map f).sum % 2 = (l.map g).sum % 2
  | [], _ => rfl
  | x :: l, h => by
    simp only [List.map_cons, List.sum_cons]
    have a := h x (.head _)
    have b := sum_mod (l := l) fun y hy => h y (.tail _ hy)
    omega
theorem ps_mod {f g : Nat → Nat → Nat} : ∀ {l : List Nat}, l.Pairwise (fun a b => f a b % 2 = g a b % 2) → ps f l % 2 = ps g l % 2
  | [], _ => rfl
  | x :: l, h => by
    have h1 := List.pairwise_cons.mp h
    simp only [ps]
    have a := ps_mod h1.2
    have b := sum_mod (l := l) (f := f x) (g := g x) fun y hy => h1.1 y hy
    omega
def cr (a b : Nat) : Nat := if b < a then 1 else 0
/-- how many pairs stand the other way round -/
def inv (l : List Nat) : Nat := ps cr l
theorem ps_zero {f : Nat → Nat → Nat} : ∀ {l : List Nat}, l.Pairwise (fun a b => f a b = 0) → ps f l = 0
  | [], _ => rfl
  | x :: l, h => by
    have h1 := List.pairwise_cons.mp h
    simp only [ps]
    rw [ps_zero h1.2]
    have : (l.map (f x)).sum = 0 := by
      have e : l.map (f x) = l.map fun _ => 0 := List.map_congr_left fun a ha => h1.1 a ha
      rw [e]
      clear h1 e h
      induction l with
      | nil => rfl
      | cons y l ih => simpa using ih
    omega
theorem inv_range (n : Nat) : inv (List.range n) = 0 := ps_zero (List.pairwise_lt_range.imp fun {a b} h => by unfold cr; rw [if_neg (by omega)])
/-- a way to tell a pair, whatever its order -/
def sy (g : Nat → Nat) (a b : Nat) : Nat := if a < b then cr (g a) (g b) else if b < a then cr (g b) (g a) else 0
theorem sy_symm (g : Nat → Nat) (a b : Nat) : sy g a b = sy g b a := by
  unfold sy
  by_cases h1 : a < b
  · rw [if_pos h1, if_neg (by omega), if_pos h1]
  · by_cases h2 : b < a
    · rw [if_neg h1, if_pos h2, if_pos h2]
    · rw [if_neg h1, if_neg h2, if_neg h2, if_neg h1]
variable {xs ys : List Nat}
theorem IsTurn.inv_then (T : IsTurn xs) (U : IsTurn ys) (e : xs.length = ys.length) : inv (thenN xs ys) % 2 = (inv xs + inv ys) % 2 := by
  have e1 : thenN xs ys = xs.map (ap ys) := rfl
  have h1 : inv (thenN xs ys) = ps (fun a b => cr (ap ys a) (ap ys b)) xs := by rw [e1]; exact ps_map xs
  have h2 : ps (fun a b => cr (ap ys a) (ap ys b)) xs % 2 = ps (fun a b => cr a b + sy (ap ys) a b) xs % 2 := by
    refine ps_mod ?_
    refine List.Pairwise.imp_of_mem (fun {a b} ha hb hab => ?_) T.nd
    have la : a < ys.length := e ▸ T.lt a ha
    have lb : b < ys.length := e ▸ T.lt b hb
    have ne : ap ys a ≠ ap ys b := fun z => hab (U.ap_inj la lb z)
    unfold sy cr
    by_cases h : a < b
    · rw [if_pos h, if_neg (by omega : ¬ b < a), Nat.zero_add]
    · have h' : b < a := by omega
      rw [if_neg h, if_pos h', if_pos h']
      by_cases q : ap ys b < ap ys a
      · rw [if_pos q, if_neg (by omega)]
      · rw [if_neg q, if_pos (by omega)]
  have h3 : ps (sy (ap ys)) xs = inv ys := by
    rw [ps_perm (sy_symm _) T.perm_range, e]
    conv => rhs; rw [eq_map ys]
    unfold inv
    rw [ps_map]
    refine ps_congr (List.pairwise_lt_range.imp fun {a b} h => ?_)
    unfold sy
    rw [if_pos h]
  rw [h1, h2, ps_add, h3]
  rfl
/-! ### two items exchanged -/
theorem cr_sum_perm {x : Nat} {l m : List Nat} (h : l.Perm m) : (l.map (cr x)).sum = (m.map (cr x)).sum := perm_sum (h.map _)
theorem inv_pre : ∀ (a : List Nat) {l m : List Nat}, l.Perm m → inv (a ++ l) + inv m = inv (a ++ m) + inv l
  | [], l, m, h => by rw [List.nil_append, List.nil_append]; omega
  | x :: a, l, m, h => by
    have ih := inv_pre a h
    show ((a ++ l).map (cr x)).sum + inv (a ++ l) + inv m = ((a ++ m).map (cr x)).sum + inv (a ++ m) + inv l
    rw [cr_sum_perm (List.Perm.append_left a h)]
    omega
theorem inv_adj {x y : Nat} (h : x ≠ y) (c : List Nat) : (inv (x :: y :: c) + inv (y :: x :: c)) % 2 = 1 := by
  show (((y :: c).map (cr x)).sum + (((c.map (cr y)).sum) + inv c) + (((x :: c).map (cr y)).sum + ((c.map (cr x)).sum + inv c))) % 2 = 1
  simp only [List.map_cons, List.sum_cons]
  have : cr x y + cr y x = 1 := by
    unfold cr
    by_cases q : y < x
    · rw [if_pos q, if_neg (by omega)]
    · rw [if_neg q, if_pos (by omega)]
  omega
theorem inv_move {x : Nat} : ∀ (b c : List Nat), x ∉ b → (inv (x :: (b ++ c)) + inv (b ++ x :: c)) % 2 = b.length % 2
  | [], c, _ => by
    show (inv (x :: c) + inv (x :: c)) % 2 = 0
    omega
  | z :: b, c, h => by
    have h1 : x ≠ z := fun e => h (e ▸ .head _)
    have h2 : x ∉ b := fun m => h (.tail _ m)
    have ih := inv_move b c h2
    have a := inv_adj h1 (b ++ c)
    have p : (x :: (b ++ c)).Perm (b ++ x :: c) := (List.perm_middle).symm
    have q := inv_pre [z] p
    rw [List.length_cons]
    show (inv (x :: z :: (b ++ c)) + inv (z :: (b ++ x :: c))) % 2 = (b.length + 1) % 2
    have q' : inv (z :: x :: (b ++ c)) + inv (b ++ x :: c) = inv (z :: (b ++ x :: c)) + inv (x :: (b ++ c)) := q
    omega
theorem inv_swap {x y : Nat} (a b c : List Nat) (h1 : x ∉ b) (h2 : y ∉ b) (h3 : x ≠ y) : (inv (a ++ x :: (b ++ y :: c)) + inv (a ++ y :: (b ++ x :: c))) % 2 = 1 := by
  have m1 := inv_move b (y :: c) h1
  have m2 := inv_move b (x :: c) h2
  have ad := inv_adj h3 c
  have q := inv_pre b (List.Perm.swap y x c)
  have p : (x :: (b ++ y :: c)).Perm (y :: (b ++ x :: c)) := by
    refine (List.Perm.cons x List.perm_middle).trans ?_
    refine (List.Perm.swap y x _).trans ?_
    exact List.Perm.cons y List.perm_middle.symm
  have r := inv_pre a p
  omega
theorem split_at (l : List Nat) {p q : Nat} (h : p < q) (hq : q < l.length) : ∃ a b c, l = a ++ l[p] :: (b ++ l[q] :: c) ∧ a.length = p ∧ a.length + b.length + 1 = q := by
  refine ⟨l.take p, (l.drop (p + 1)).take (q - p - 1), l.drop (q + 1), ?_, ?_, ?_⟩
  · have e1 : l = l.take p ++ l.drop p := (List.take_append_drop p l).symm
    have e2 : l.drop p = l[p] :: l.drop (p + 1) := List.drop_eq_getElem_cons (by omega)
    have e3 : l.drop (p + 1) = (l.drop (p + 1)).take (q - p - 1) ++ (l.drop (p + 1)).drop (q - p - 1) := (List.take_append_drop _ _).symm
    have e4 : (l.drop (p + 1)).drop (q - p - 1) = l.drop q := by rw [List.drop_drop]; congr 1; omega
    have e5 : l.drop q = l[q] :: l.drop (q + 1) := List.drop_eq_getElem_cons hq
    conv => lhs; rw [e1, e2, e3, e4, e5]
  · rw [List.length_take]; omega
  · rw [List.length_take, List.length_take, List.length_drop]; omega
theorem set_mid {α : Type} (x y : α) (l : List α) : ∀ a : List α, (a ++ x :: l).set a.length y = a ++ y :: l
  | [] => rfl
  | z :: a => by
    show z :: (a ++ x :: l).set a.length y = z :: (a ++ y :: l)
    rw [set_mid x y l a]
theorem inv_set {l : List Nat} {p q : Nat} (hp : p < l.length) (hq : q < l.length) (hpq : p ≠ q) (nd : l.Nodup) : (inv l + inv ((l.set p l[q]).set q l[p])) % 2 = 1 := by
  have key : ∀ {p q : Nat} (hp : p < l.length) (hq : q < l.length), p < q → (inv l + inv ((l.set p l[q]).set q l[p])) % 2 = 1 := by
    intro p q hp hq h
    obtain ⟨a, b, c, e, la, lb⟩ := split_at l h hq
    generalize hx : l[p] = x at *
    generalize hy : l[q] = y at *
    have nd' := nd
    rw [e] at nd'
    have n2 := (List.nodup_append.mp nd').2.1
    rw [List.nodup_cons] at n2
    have n3 := (List.nodup_append.mp n2.2).2.2
    have hxb : x ∉ b := fun m => n2.1 (List.mem_append.mpr (.inl m))
    have hxy : x ≠ y := fun z => n2.1 (List.mem_append.mpr (.inr (z ▸ List.mem_cons_self)))
    have hyb : y ∉ b := fun m => n3 y m y List.mem_cons_self rfl
    have es : (l.set p y).set q x = a ++ y :: (b ++ x :: c) := by
      rw [e, ← la, set_mid]
      have : a ++ y :: (b ++ y :: c) = (a ++ y :: b) ++ y :: c := by simp
      rw [this]
      have lq : q = (a ++ y :: b).length := by rw [List.length_append, List.length_cons]; omega
      rw [lq, set_mid]
      simp
    rw [es]
    conv => lhs; lhs; lhs; rw [e]
    exact inv_swap a b c hxb hyb hxy
  rcases Nat.lt_or_gt_of_ne hpq with h | h
  · exact key hp hq h
  · have := key hq hp h
    rw [List.set_comm _ _ (by omega)] at this
    exact this
end Tn

/-! rings and crossings -/
namespace Tn
theorem swap_perm {l : List Nat} {p q : Nat} (hp : p < l.length) (hq : q < l.length) (hpq : p ≠ q) : ((l.set p l[q]).set q l[p]).Perm l := by
  have key : ∀ {p q : Nat} (hp : p < l.length) (hq : q < l.length), p < q → ((l.set p l[q]).set q l[p]).Perm l := by
    intro p q hp hq h
    obtain ⟨a, b, c, e, la, lb⟩ := split_at l h hq
    generalize hx : l[p] = x at *
    generalize hy : l[q] = y at *
    have es : (l.set p y).set q x = a ++ y :: (b ++ x :: c) := by
      rw [e, ← la, set_mid]
      have : a ++ y :: (b ++ y :: c) = (a ++ y :: b) ++ y :: c := by simp
      rw [this]
      have lq : q = (a ++ y :: b).length := by rw [List.length_append, List.length_cons]; omega
      rw [lq, set_mid]
      simp
    rw [es]
    conv => rhs; rw [e]
    refine List.Perm.append_left a ?_
    refine (List.Perm.cons y List.perm_middle).trans ?_
    refine (List.Perm.swap x y _).trans ?_
    exact List.Perm.cons x List.perm_middle.symm
  rcases Nat.lt_or_gt_of_ne hpq with h | h
  · exact key hp hq h
  · have := key hq hp h
    rw [List.set_comm _ _ (by omega)] at this
    exact this
/-- a ring laid into a list, step by step -/
def cyc (r0 : Nat) : List Nat → Nat → List Nat → List Nat
  | l, _, [] => l
  | l, cur, x :: t => cyc r0 ((l.set cur x).set x r0) x t
theorem cyc_len (r0 : Nat) : ∀ (t l : List Nat) (cur : Nat), (cyc r0 l cur t).length = l.length
  | [], _, _ => rfl
  | x :: t, l, cur => by unfold cyc; rw [cyc_len r0 t]; simp
theorem cyc_other (r0 : Nat) : ∀ (t l : List Nat) (cur y : Nat), y ≠ cur → y ∉ t → (cyc r0 l cur t)[y]? = l[y]?
  | [], _, _, _, _, _ => rfl
  | x :: t, l, cur, y, h, h2 => by
    unfold cyc
    have hx : y ≠ x := fun e => h2 (e ▸ .head _)
    rw [cyc_other r0 t _ x y hx (fun m => h2 (.tail _ m)), List.getElem?_set_ne (fun e => hx e.symm), List.getElem?_set_ne (fun e => h e.symm)]
theorem cyc_at (r0 : Nat) : ∀ (t l : List Nat) (cur : Nat), (cur :: t).Nodup → (∀ x ∈ cur :: t, x < l.length) → l[cur]? = some r0 → ∀ (i y : Nat), (cur :: t)[i]? = some y → (cyc r0 l cur t)[y]? = (t ++ [r0])[i]?
  | [], l, cur, nd, lt, h, i, y, hy => by
    cases i with
    | zero =>
      have : cur = y := by simpa using hy
      subst this
      simpa [cyc] using h
    | succ i => simp at hy
  | x :: t, l, cur, nd, lt, h, i, y, hy => by
    have nd1 := List.nodup_cons.mp nd
    have hcx : cur ≠ x := fun e => nd1.1 (e ▸ .head _)
    have hct : cur ∉ t := fun m => nd1.1 (.tail _ m)
    have hx : x < l.length := lt x (.tail _ (.head _))
    have hc : cur < l.length := lt cur (.head _)
    unfold cyc
    cases i with
    | zero =>
      have : cur = y := by simpa using hy
      subst this
      rw [cyc_other r0 t _ x cur hcx hct, List.getElem?_set_ne (fun e => hcx e.symm)]
      simp [hc]
    | succ i =>
      have hy' : (x :: t)[i]? = some y := by simpa using hy
      rw [cyc_at r0 t _ x nd1.2 (fun z hz => by rw [List.length_set, List.length_set]; exact lt z (.tail _ hz)) (by simp [hx]) i y hy']
      simp
theorem cyc_inv (r0 : Nat) : ∀ (t l : List Nat) (cur : Nat), (cur :: t).Nodup → (∀ x ∈ cur :: t, x < l.length) → l[cur]? = some r0 → (∀ x ∈ t, l[x]? = some x) → l.Nodup → (inv (cyc r0 l cur t) + inv l) % 2 = t.length % 2 ∧ (cyc r0 l cur t).Nodup
  | [], l, cur, _, _, _, _, nl => ⟨by show (inv l + inv l) % 2 = 0; omega, nl⟩
  | x :: t, l, cur, nd, lt, h, ht, nl => by
    have nd1 := List.nodup_cons.mp nd
    have hcx : cur ≠ x := fun e => nd1.1 (e ▸ .head _)
    have hx : x < l.length := lt x (.tail _ (.head _))
    have hc : cur < l.length := lt cur (.head _)
    have ec : l[cur] = r0 := by
      have := List.getElem?_eq_some_iff.mp h
      exact this.2
    have ex : l[x] = x := (List.getElem?_eq_some_iff.mp (ht x (.head _))).2
    have sw := inv_set hc hx hcx nl
    have sp := swap_perm hc hx hcx
    rw [ex, ec] at sw sp
    have nl' : ((l.set cur x).set x r0).Nodup := sp.nodup_iff.mpr nl
    obtain ⟨a, b⟩ := cyc_inv r0 t ((l.set cur x).set x r0) x nd1.2 (fun z hz => by rw [List.length_set, List.length_set]; exact lt z (.tail _ hz)) (by simp [hx]) (fun z hz => by
      have n1 : x ≠ z := fun e => (List.nodup_cons.mp nd1.2).1 (e ▸ hz)
      have n2 : cur ≠ z := fun e => nd1.1 (e ▸ .tail _ hz)
      rw [List.getElem?_set_ne n1, List.getElem?_set_ne n2]
      exact ht z (.tail _ hz)) nl'
    refine ⟨?_, b⟩
    show (inv (cyc r0 ((l.set cur x).set x r0) x t) + inv l) % 2 = (t.length + 1) % 2
    omega
/-- some places led, the others at rest -/
def gN (n : Nat) (τ : Nat → Nat) (done : List Nat) : List Nat := (List.range n).map fun y => if y ∈ done then τ y else y
theorem gN_len (n : Nat) (τ : Nat → Nat) (done : List Nat) : (gN n τ done).length = n := by simp [gN]
theorem gN_get {n : Nat} {τ : Nat → Nat} {done : List Nat} {y : Nat} (h : y < n) : (gN n τ done)[y]? = some (if y ∈ done then τ y else y) := by simp [gN, h]
variable {xs ys : List Nat}
theorem IsTurn.gN_ring (T : IsTurn xs) {x : Nat} (h : x < xs.length) (done : List Nat) (dis : ∀ y ∈ ring xs x, y ∉ done) (nl : (gN xs.length (ap xs) done).Nodup) :
    (inv (gN xs.length (ap xs) (done ++ ring xs x)) + inv (gN xs.length (ap xs) done)) % 2 = ((ring xs x).length - 1) % 2 ∧ (gN xs.length (ap xs) (done ++ ring xs x)).Nodup := by
  obtain ⟨t, ht⟩ : ∃ t, ring xs x = x :: t := by
    have p := per_pos xs x
    unfold ring
    obtain ⟨k, hk⟩ : ∃ k, per xs x = k + 1 := ⟨per xs x - 1, by omega⟩
    rw [hk, List.range_succ_eq_map, List.map_cons]
    exact ⟨_, rfl⟩
  have nd := T.ring_nodup h
  have lt : ∀ y ∈ x :: t, y < (gN xs.length (ap xs) done).length := fun y hy => by rw [gN_len]; exact T.ring_lt h (by rw [ht]; exact hy)
  have rest : ∀ y ∈ x :: t, (gN xs.length (ap xs) done)[y]? = some y := fun y hy => by
    rw [gN_get (T.ring_lt h (by rw [ht]; exact hy)), if_neg (dis y (by rw [ht]; exact hy))]
  rw [ht] at nd
  have e : gN xs.length (ap xs) (done ++ ring xs x) = cyc x (gN xs.length (ap xs) done) x t := by
    apply List.ext_getElem?
    intro y
    by_cases hy : y < xs.length
    · rw [gN_get hy]
      by_cases hm : y ∈ ring xs x
      · rw [if_pos (List.mem_append.mpr (.inr hm))]
        obtain ⟨i, hi, e⟩ := mem_ring.mp hm
        have hi' : (x :: t)[i]? = some y := by
          rw [← ht]
          simp [ring, hi, e]
        rw [cyc_at x t _ x nd lt (rest x (.head _)) i y hi']
        have e2 : (t ++ [x])[i]? = (ring xs x ++ [x])[i + 1]? := by rw [ht]; rfl
        rw [e2, ← e]
        by_cases q : i + 1 < per xs x
        · rw [List.getElem?_append_left (by rw [ring_len]; exact q)]
          simp [ring, q]
          rfl
        · have q' : i + 1 = per xs x := by omega
          rw [List.getElem?_append_right (by rw [ring_len]; omega), ring_len, show i + 1 - per xs x = 0 by omega]
          show some (ap xs (it xs i x)) = some x
          have := T.it_per h
          rw [← q'] at this
          exact congrArg some this
      · have n1 : y ≠ x := fun z => hm (z ▸ self_mem_ring xs x)
        have n2 : y ∉ t := fun m => hm (by rw [ht]; exact .tail _ m)
        rw [cyc_other x t _ x y n1 n2, gN_get hy]
        by_cases hd : y ∈ done
        · rw [if_pos (List.mem_append.mpr (.inl hd)), if_pos hd]
        · rw [if_neg (fun m => (List.mem_append.mp m).elim hd hm), if_neg hd]
    · rw [List.getElem?_eq_none (by rw [gN_len]; omega), List.getElem?_eq_none (by rw [cyc_len, gN_len]; omega)]
  have c := cyc_inv x t (gN xs.length (ap xs) done) x nd lt (rest x (.head _)) (fun y hy => rest y (.tail _ hy)) nl
  rw [e, ht]
  exact ⟨by simpa using c.1, c.2⟩
theorem IsTurn.gN_rings (T : IsTurn xs) : ∀ (rs : List (List Nat)) (done : List Nat), (∀ r ∈ rs, ∃ x, x < xs.length ∧ r = ring xs x) → (done ++ rs.flatten).Nodup → (gN xs.length (ap xs) done).Nodup →
    (inv (gN xs.length (ap xs) (done ++ rs.flatten)) + inv (gN xs.length (ap xs) done)) % 2 = ((rs.map fun r => r.length - 1).sum) % 2
  | [], done, _, _, _ => by simp; omega
  | r :: rs, done, h, nd, nl => by
    obtain ⟨x, hx, e⟩ := h r (.head _)
    subst e
    rw [List.flatten_cons, ← List.append_assoc] at nd
    have n1 := (List.nodup_append.mp nd).1
    have n2 := (List.nodup_append.mp n1).2.2
    obtain ⟨a, b⟩ := T.gN_ring hx done (fun y hy m => n2 y m y hy rfl) nl
    have ih := T.gN_rings rs (done ++ ring xs x) (fun r hr => h r (.tail _ hr)) nd b
    rw [List.flatten_cons, ← List.append_assoc, List.map_cons, List.sum_cons]
    omega
theorem len_sum : ∀ rs : List (List Nat), (∀ r ∈ rs, 1 ≤ r.length) → (rs.map fun r => r.length - 1).sum + rs.length = (rs.map List.length).sum
  | [], _ => rfl
  | r :: rs, h => by
    have a := h r (.head _)
    have b := len_sum rs fun q m => h q (.tail _ m)
    simp only [List.map_cons, List.sum_cons, List.length_cons]
    omega
/-- the crossings are even just if so many places as rings are missing -/
theorem IsTurn.inv_rings (T : IsTurn xs) : inv xs % 2 = (xs.length - (ringsN xs).length) % 2 ∧ (ringsN xs).length ≤ xs.length := by
  have e0 : gN xs.length (ap xs) [] = List.range xs.length := by simp [gN]
  have e1 : gN xs.length (ap xs) ([] ++ (ringsN xs).flatten) = xs := by
    rw [List.nil_append]
    conv => rhs; rw [eq_map xs]
    exact List.map_congr_left fun y hy => by rw [if_pos (T.mem_rings.mpr (List.mem_range.mp hy))]
  have h := T.gN_rings (ringsN xs) [] (fun r hr => by
    obtain ⟨x, hx, rfl⟩ := List.mem_map.mp hr
    exact ⟨x, (mem_reps.mp hx).1, rfl⟩) (by rw [List.nil_append]; exact T.rings_nodup) (by rw [e0]; exact List.nodup_range)
  rw [e1, e0, inv_range] at h
  have s := len_sum (ringsN xs) fun r hr => by
    obtain ⟨x, hx, rfl⟩ := List.mem_map.mp hr
    rw [ring_len]
    exact per_pos xs x
  have t : ((ringsN xs).map List.length).sum = xs.length := T.lens_sum
  omega
end Tn

/-! pure side: even turns, moved places, crossings, turns of rings -/
namespace Eng
namespace Pg
open PySem PySem.Spec PyProof.Rows L2 Evl Tn
variable [Tb]
section
variable {xs : List Nat}
def evN (xs : List Nat) : Bool := decide (inv xs % 2 = 0)
theorem p_is_even_turn (c : Cup) (T : IsTurn xs) : f_is_even_turn c [tD xs] = .ok (.bl (evN xs)) (0, 0, 0) := by
  obtain ⟨h1, h2⟩ := T.inv_rings
  refine defP_ret (s' := ⟨[.val (tD xs)], (0, 0, 0)⟩) rfl (by decide) ?_
  simp [ss_is_even_turn, p_rings_in _ T]
  unfold evN
  rw [h1]
  congr 1
  exact propext ⟨fun h => by omega, fun h => by omega⟩
theorem p_is_even (c : Cup) (T : IsTurn xs) : f_is_even c [tD xs] = .ok (.bl (evN xs)) (0, 0, 0) := by
  refine defP_ret (s' := ⟨[.val (tD xs)], (0, 0, 0)⟩) rfl (by decide) ?_
  simp [ss_is_even, p_check_turn _ T, p_is_even_turn _ T]
/-- a comprehension of a pair with a condition, whose first is kept -/
theorem lcL_two {i j : Nat} (hij : i ≠ j) {st : SB} {p : D → D → Bool} {s : S} (hf : freeV s.env [i, j] = true) (hi : i < s.env.length) (hj : j < s.env.length) :
    ∀ (ds : List (D × D)) (acc : List D), (∀ d ∈ ds, st ⟨(s.env.set i (.val d.1)).set j (.val d.2), s.cup⟩ = .ok (p d.1 d.2) ⟨(s.env.set i (.val d.1)).set j (.val d.2), s.cup⟩) → acc.length + ds.length ≤ line →
      lcL (sgTwo i j) st (sVar i) [i, j] (ds.map fun d => D.tup [d.1, d.2]) acc s = .ok (.fr (acc ++ (ds.filter fun d => p d.1 d.2).map (·.1))) s
  | [], acc, _, _ => by simp [lcL]
  | d :: ds, acc, h0, hl => by
    have e1 : sgTwo i j (.tup [d.1, d.2]) (wipeS s [i, j]) = some ⟨(s.env.set i (.val d.1)).set j (.val d.2), s.cup⟩ := by
      show some (setSl (setSl ⟨(s.env.set j .no).set i .no, s.cup⟩ i (.val d.1)) j (.val d.2)) = _
      simp only [setSl, List.set_set]
      rw [List.set_comm Sl.no (Sl.val d.1) (fun e => hij e.symm), List.set_set]
    have ei : ((s.env.set i (.val d.1)).set j (.val d.2))[i]? = some (.val d.1) := by
      rw [List.getElem?_set_ne (fun e => hij e.symm)]
      simp [hi]
    have e2 : unwipeS s ⟨(s.env.set i (.val d.1)).set j (.val d.2), s.cup⟩ [i, j] = s := by
      unfold unwipeS
      simp only [unwipeE]
      rw [List.getElem?_eq_getElem hj, List.getElem?_eq_getElem hi]
      simp only [List.set_set]
      have : ((s.env.set i (.val d.1)).set j s.env[j]).set i s.env[i] = s.env := by
        apply List.ext_getElem?
        intro k
        rw [List.getElem?_set]
        split
        · rename_i e
          subst e
          rw [if_pos (by rw [List.length_set, List.length_set]; exact hi)]
          exact (List.getElem?_eq_getElem hi).symm
        · rename_i e
          rw [List.getElem?_set]
          split
          · rename_i e'
            subst e'
            rw [if_pos (by rw [List.length_set]; exact hj)]
            exact (List.getElem?_eq_getElem hj).symm
          · rw [List.getElem?_set_ne e]
      rw [this]
    rw [List.map_cons]
    unfold lcL
    rw [if_pos hf, e1]
    rw [List.length_cons] at hl
    have hs := h0 d (.head _)
    cases hp : p d.1 d.2 with
    | false =>
      rw [hp] at hs
      simp only [hs, Res.noX, Res.bind, e2]
      rw [lcL_two hij hf hi hj ds acc (fun d' m => h0 d' (.tail _ m)) (by omega)]
      simp [hp]
    | true =>
      rw [hp] at hs
      simp only [hs, Res.noX, Res.bind, y_var, ei, x_frz]
      rw [if_pos (by omega), e2, lcL_two hij hf hi hj ds (acc ++ [d.1]) (fun d' m => h0 d' (.tail _ m)) (by rw [List.length_append]; simp only [List.length_cons, List.length_nil]; omega)]
      simp [hp]
def movN (xs : List Nat) : List Nat := (List.range xs.length).filter fun y => decide (ap xs y ≠ y)
theorem p_moved (c : Cup) (T : IsTurn xs) : f_moved c [tD xs] = .ok (tD (movN xs)) (0, 0, 0) := by
  have l := lcL_two (i := 1) (j := 2) (by decide) (st := sB (sOp2 neD (sVar 1) (sVar 2))) (p := fun a b => match a, b with | .int x, .int y => !decide (x = y) | _, _ => false) (s := ⟨[.val (tD xs), .no, .no], (0, 0, 0)⟩) rfl (by simp) (by simp) ((List.range xs.length).map fun y => (nD y, nD (ap xs y))) [] (fun d hd => by
    obtain ⟨y, _, rfl⟩ := List.mem_map.mp hd
    simp [nD]) (by have := T.hi; simp [line]; omega)
  have e0 : enD (xs.map nD) = ((List.range xs.length).map fun y => (nD y, nD (ap xs y))).map fun d => D.tup [d.1, d.2] := by
    unfold enD
    rw [List.map_map]
    apply List.ext_getElem?
    intro i
    rw [List.getElem?_map, List.getElem?_zipIdx, List.getElem?_map, List.getElem?_map]
    by_cases h : i < xs.length
    · rw [ap_get? h, List.getElem?_range h]
      simp [nD]
    · rw [List.getElem?_eq_none (by omega), List.getElem?_eq_none (by rw [List.length_range]; omega)]
      rfl
  have e : sLc (siEnum (sVar 0)) (sgTwo 1 2) (sB (sOp2 neD (sVar 1) (sVar 2))) (sVar 1) [1, 2] ⟨[.val (tD xs), .no, .no], (0, 0, 0)⟩ = .ok (.fr ((movN xs).map nD)) ⟨[.val (tD xs), .no, .no], (0, 0, 0)⟩ := by
    unfold sLc
    refine Eq.trans (b := lcL (sgTwo 1 2) (sB (sOp2 neD (sVar 1) (sVar 2))) (sVar 1) [1, 2] (enD (xs.map nD)) [] ⟨[.val (tD xs), .no, .no], (0, 0, 0)⟩) (by simp) ?_
    rw [e0]
    refine l.trans ?_
    rw [List.nil_append, List.filter_map, List.map_map]
    unfold movN
    congr 2
    have : (List.range xs.length).filter ((fun d : D × D => match d.1, d.2 with | .int x, .int y => !decide (x = y) | _, _ => false) ∘ fun y => (nD y, nD (ap xs y))) = (List.range xs.length).filter fun y => decide (ap xs y ≠ y) := by
      refine List.filter_congr fun y _ => ?_
      simp only [Function.comp, nD]
      by_cases h : ap xs y = y
      · simp [h]
      · have h' : ¬ (y : Int) = (ap xs y : Int) := by omega
        simp [h, h']
    rw [← this]
    rfl
  refine defP_ret (s' := ⟨[.val (tD xs), .no, .no], (0, 0, 0)⟩) rfl (by decide) ?_
  refine seq_ok (s1 := ⟨[.val (tD xs), .no, .no], (0, 0, 0)⟩) ?_ ?_
  · simp [p_check_turn _ T]
  · unfold sRet sOp1
    rw [e]
    simp
    rfl
theorem p_l_lens (c : Cup) (T : IsTurn xs) : f_l_lens c [tD xs] = .ok (tD (kN (lens xs))) (0, 0, 0) := by
  have l := lcL_map (i := 1) (se := sOp1 lenD (sVar 1)) (g := fun d => match d with | .tup l => nD l.length | d => d) (s := ⟨[.val (tD xs), .no], (0, 0, 0)⟩) rfl rfl ((ringsN xs).map tD) [] (fun d hd => by
    obtain ⟨r, hr, rfl⟩ := List.mem_map.mp hd
    simp [tD]
    rfl) (by have := rings_count T; simp [line]; omega)
  have e : sLc (siSeq (sCall f_l_loops (sCons (sVar 0) (sNil)))) (sgName 1) (sYes) (sOp1 lenD (sVar 1)) [1] ⟨[.val (tD xs), .no], (0, 0, 0)⟩ = .ok (.fr ((lens xs).map nD)) ⟨[.val (tD xs), .no], (0, 0, 0)⟩ := by
    unfold sLc
    simp [p_l_loops _ T]
    refine l.trans ?_
    rw [List.nil_append, List.map_map, lens, List.map_map]
    congr 2
    refine List.map_congr_left fun r _ => ?_
    simp [tD]
  have so : sortedUD (.lst ((lens xs).map nD)) = some (.fr ((sortI ((lens xs).map Int.ofNat)).map .int)) := by
    unfold sortedUD sortedD
    rw [nD_int]
    simp only [intsOf_map, Option.map_some]
  have rv : revD (.lst ((sortI ((lens xs).map Int.ofNat)).map .int)) = some (.fr ((kN (lens xs)).map nD)) := by
    have := y_sortedR (lens xs)
    unfold sortedRD at this
    rw [nD_int] at this
    simp only [intsOf_map, Option.map_some] at this
    rw [← this]
    unfold revD
    simp
  refine defP_ret (s' := ⟨[.val (tD xs), .no], (0, 0, 0)⟩) rfl (by decide) ?_
  simp [ss_l_lens, e, so, rv]
  rfl
end
end Pg
end Eng

/-! pure side: crossings counted by the law, turns of rings, turns of a kind counted -/
namespace Eng
namespace Pg
open PySem PySem.Spec PyProof.Rows L2 Evl Tn
variable [Tb]
section
variable {xs : List Nat}
theorem cr_count (x : Nat) : ∀ l : List Nat, (l.map (cr x)).sum = (l.filter fun y => decide (y < x)).length
  | [] => rfl
  | y :: l => by
    rw [List.map_cons, List.sum_cons, cr_count x l, List.filter_cons]
    unfold cr
    by_cases h : y < x
    · simp [h]; omega
    · simp [h]
theorem inv_drop {k : Nat} (h : k < xs.length) : inv (xs.drop k) = ((xs.drop (k + 1)).filter fun y => decide (y < ap xs k)).length + inv (xs.drop (k + 1)) := by
  rw [List.drop_eq_getElem_cons h, ← ap_get h]
  show ((xs.drop (k + 1)).map (cr (ap xs k))).sum + inv (xs.drop (k + 1)) = _
  rw [cr_count]
def xB : SS := (sAsg 1 (sOp2 addD (sVar 1) (sOp1 lenD (sLc (siSeq (sSl (sVar 0) (sPart (sOp2 addD (sVar 2) (sC (.int 1)))) (sNoP))) (sgName 3) (sB (sOp2 ltD (sVar 3) (sOp2 ixD (sVar 0) (sVar 2)))) (sVar 3) [3]))))
theorem x_one {k f : Nat} (T : IsTurn xs) (h : k < xs.length) : xB ⟨[.val (tD xs), .val (nD f), .val (nD k), .no], (0, 0, 0)⟩ = .ok .next ⟨[.val (tD xs), .val (nD (f + ((xs.drop (k + 1)).filter fun y => decide (y < ap xs k)).length)), .val (nD k), .no], (0, 0, 0)⟩ := by
  have hi := T.hi
  have c := cut_lo xs (k + 1) (by omega)
  have ix := ixT h
  have l := lcL_fm (i := 3) (st := sB (sOp2 ltD (sVar 3) (sOp2 ixD (sVar 0) (sVar 2)))) (se := sVar 3) (p := fun d => match d with | .int y => decide (y < (ap xs k : Int)) | _ => false) (g := fun d => d) (s := ⟨[.val (tD xs), .val (nD f), .val (nD k), .no], (0, 0, 0)⟩) rfl rfl ((xs.drop (k + 1)).map nD) [] (fun d hd => by
    obtain ⟨y, _, rfl⟩ := List.mem_map.mp hd
    simp [ix]
    simp [nD]) (fun d hd => by simp) (by simp [line]; omega)
  have e : sLc (siSeq (sSl (sVar 0) (sPart (sOp2 addD (sVar 2) (sC (.int 1)))) (sNoP))) (sgName 3) (sB (sOp2 ltD (sVar 3) (sOp2 ixD (sVar 0) (sVar 2)))) (sVar 3) [3] ⟨[.val (tD xs), .val (nD f), .val (nD k), .no], (0, 0, 0)⟩ = .ok (.fr (((xs.drop (k + 1)).filter fun y => decide (y < ap xs k)).map nD)) ⟨[.val (tD xs), .val (nD f), .val (nD k), .no], (0, 0, 0)⟩ := by
    unfold sLc
    refine Eq.trans (b := lcL (sgName 3) (sB (sOp2 ltD (sVar 3) (sOp2 ixD (sVar 0) (sVar 2)))) (sVar 3) [3] ((xs.drop (k + 1)).map nD) [] ⟨[.val (tD xs), .val (nD f), .val (nD k), .no], (0, 0, 0)⟩) ?_ (l.trans ?_)
    · have c' : cutL (xs.map nD) (some ((k : Int) + 1)) none = (xs.drop (k + 1)).map nD := by rw [← c]; congr 1
      simp [tD]
      rw [c']
      simp
    · rw [List.nil_append, List.map_id', List.filter_map]
      congr 3
      refine List.filter_congr fun y _ => ?_
      simp only [Function.comp, nD]
      by_cases q : y < ap xs k
      · have q' : (y : Int) < (ap xs k : Int) := by omega
        simp only [q, q', decide_true]
      · have q' : ¬ (y : Int) < (ap xs k : Int) := by omega
        simp only [q, q', decide_false]
  unfold xB
  simp only [y_asg, y_op2, y_op1, y_var, List.getElem?_cons_succ, List.getElem?_cons_zero, x_bind, e, x_peekF, x_lenLD, x_peek, x_addN3, x_stow, y_set, List.set_cons_succ, List.set_cons_zero]
  congr 4
theorem p_l_crossed (c : Cup) (T : IsTurn xs) : f_l_crossed c [tD xs] = .ok (nD (inv xs)) (0, 0, 0) := by
  have hi := T.hi
  obtain ⟨s', e, v2, f, hf, hs⟩ := for_range (i := 2) (sb := xB) (fun k s => ∃ (v2 : Sl) (f : Nat), f + inv (xs.drop k) = inv xs ∧ s = ⟨[.val (tD xs), .val (nD f), v2, .no], (0, 0, 0)⟩) (n := xs.length) (s := ⟨[.val (tD xs), .val (nD 0), .no, .no], (0, 0, 0)⟩) ⟨.no, 0, by simp, rfl⟩ (fun k s hk ⟨v2, f, hf, hs⟩ => by
    subst hs
    have d := inv_drop (xs := xs) hk
    exact ⟨_, x_one T hk, _, _, by omega, rfl⟩)
  subst hs
  have hz : inv (xs.drop xs.length) = 0 := by rw [List.drop_length]; rfl
  have hf' : f = inv xs := by omega
  subst hf'
  refine defP_ret (s' := ⟨[.val (tD xs), .val (nD (inv xs)), v2, .no], (0, 0, 0)⟩) rfl (by decide) ?_
  refine seq_ok (s1 := ⟨[.val (tD xs), .val (nD 0), .no, .no], (0, 0, 0)⟩) ?_ (seq_ok (for_ok (rg1 (n := xs.length) (s1 := ⟨[.val (tD xs), .val (nD 0), .no, .no], (0, 0, 0)⟩) ?_ (by omega)) e) ?_)
  · simp [nD]
  · simp
  · simp
end
theorem p_are_rings (c : Cup) {rs : List (List Nat)} {n : Nat} (h1 : ∀ r ∈ rs, r ≠ []) (h2 : rs.flatten.Nodup) (h3 : ∀ x ∈ rs.flatten, x < n) (hn : n ≤ 24) : f_are_rings c [rsD rs, nD n] = .ok (.bl true) (0, 0, 0) := by
  have hl : rs.flatten.length ≤ n := nodup_length_le n _ h2 h3
  have tk : ∀ k, (rs.take k).flatten.length ≤ 24 := fun k => by
    have : ((rs.take k).flatten).length ≤ rs.flatten.length := by
      conv => rhs; rw [← List.take_append_drop k rs]
      rw [List.flatten_append, List.length_append]
      omega
    omega
  obtain ⟨s', e, v3, hs⟩ := for_map (f := tD) (i := 3) (sb := (sSeq (sIfS (sOr (sNot (sB (sOp1 (isiD "tuple") (sVar 3)))) (sB (sOp2 eqD (sOp1 lenD (sVar 3)) (sC (.int 0))))) (sRet (sC (.bl false))) (sNext)) (sDrop (sMut 2 fExtT (sCons (sVar 3) (sNil)))))) (fun k s => ∃ v3, s = ⟨[.val (rsD rs), .val (nD n), .own (((rs.take k).flatten).map nD), v3], (0, 0, 0)⟩) (xs := rs) (s := ⟨[.val (rsD rs), .val (nD n), .own [], .no], (0, 0, 0)⟩) ⟨.no, rfl⟩ (fun k r s hx ⟨v3, hs⟩ => by
    subst hs
    have ne := h1 r (List.mem_of_getElem? hx)
    have nl : ¬ (r.length : Int) = 0 := by
      intro z
      exact ne (List.length_eq_zero_iff.mp (by omega))
    have t1 : isiD "tuple" (tD r) = some (.dat (.bl true)) := isi_tup_tuple _
    have rt : (rs.take (k + 1)).flatten = (rs.take k).flatten ++ r := by rw [take_succ' hx, List.flatten_append]; simp
    have ex : fExtT (((rs.take k).flatten).map nD) [tD r] = some (.non, (((rs.take (k + 1)).flatten).map nD)) := by
      have a := tk (k + 1)
      rw [rt, List.length_append] at a
      unfold tD fExtT
      simp only
      rw [if_pos (by rw [List.length_map, List.length_map]; unfold line; omega), rt, List.map_append]
    refine ⟨_, ?_, .val (tD r), rfl⟩
    refine seq_ok (s1 := ⟨[.val (rsD rs), .val (nD n), .own (((rs.take k).flatten).map nD), .val (tD r)], (0, 0, 0)⟩) ?_ ?_
    · simp [t1, ne]
    · have m := mut_ok (i := 2) (f := fExtT) (sa := sCons (sVar 3) sNil) (s := ⟨[.val (rsD rs), .val (nD n), .own (((rs.take k).flatten).map nD), .val (tD r)], (0, 0, 0)⟩) (s2 := ⟨[.val (rsD rs), .val (nD n), .own (((rs.take k).flatten).map nD), .val (tD r)], (0, 0, 0)⟩) (as := [tD r]) rfl (by simp) rfl ex
      unfold sDrop
      rw [m]
      simp)
  subst hs
  rw [List.take_length] at e
  have t1 : isiD "tuple" (rsD rs) = some (.dat (.bl true)) := isi_tup_tuple _
  refine defP_ret (s' := ⟨[.val (rsD rs), .val (nD n), .val (.lst (rs.flatten.map nD)), v3], (0, 0, 0)⟩) rfl (by decide) ?_
  refine seq_ok (s1 := ⟨[.val (rsD rs), .val (nD n), .no, .no], (0, 0, 0)⟩) ?_ (seq_ok (s1 := ⟨[.val (rsD rs), .val (nD n), .own [], .no], (0, 0, 0)⟩) ?_ (seq_ok (for_ok (ds := rs.map tD) (s1 := ⟨[.val (rsD rs), .val (nD n), .own [], .no], (0, 0, 0)⟩) ?_ e) ?_))
  · simp [t1]
  · simp
  · simp
  · have q := p_unlike (0, 0, 0) (d := .lst (rs.flatten.map nD)) (xs := rs.flatten) (n := n) rfl (by omega) h3 h2
    simp [-List.map_flatten, q]
theorem p_turn_of (c : Cup) {τ : Nat → Nat} {rs : List (List Nat)} {n : Nat} (h0 : 1 ≤ n) (hn : n ≤ 24) (h1 : ∀ r ∈ rs, r ≠ []) (h2 : rs.flatten.Nodup) (h3 : ∀ x ∈ rs.flatten, x < n) (hr : ∀ r ∈ rs, Leads 1 τ r) : f_turn_of c [nD n, rsD rs] = .ok (tD (glN n τ rs.flatten)) (0, 0, 0) := by
  have e := p_along (0, 0, 0) (z := 1) (τ := τ) (rs := rs) (n := n) (by omega) hr (fun r hr x hx => h3 x (List.mem_flatten.mpr ⟨r, hr, hx⟩))
  have cn := p_check_number (0, 0, 0) (x := (n : Int)) (a := 1) (b := 24) (by omega) (by omega)
  refine defP_ret (s' := ⟨[.val (nD n), .val (rsD rs)], (0, 0, 0)⟩) rfl (by decide) ?_
  refine seq_ok (s1 := ⟨[.val (nD n), .val (rsD rs)], (0, 0, 0)⟩) ?_ (seq_ok (s1 := ⟨[.val (nD n), .val (rsD rs)], (0, 0, 0)⟩) ?_ ?_)
  · simp [nD, cn]
  · simp [p_are_rings _ h1 h2 h3 hn]
  · simp [e]
/-! ### how many turns have a kind: some -/
def fac (n : Nat) : Nat := Builtin.Math.factorialNat n
theorem fac_succ (n : Nat) : fac (n + 1) = fac n * (n + 1) := by
  unfold fac Builtin.Math.factorialNat
  rw [List.range_succ, List.foldl_append]
  rfl
theorem fac_pos : ∀ n, 1 ≤ fac n
  | 0 => Nat.le_refl _
  | n + 1 => by rw [fac_succ]; exact Nat.mul_pos (fac_pos n) (Nat.succ_pos n)
theorem fac_mono {a b : Nat} (h : a ≤ b) : fac a ≤ fac b := by
  induction b with
  | zero => rw [Nat.le_zero.mp h]; exact Nat.le_refl _
  | succ b ih =>
    by_cases e : a = b + 1
    · rw [e]; exact Nat.le_refl _
    · rw [fac_succ]
      exact Nat.le_trans (ih (by omega)) (Nat.le_mul_of_pos_right (fac b) (Nat.succ_pos b))
theorem fac_step {S x a : Nat} (hx : 1 ≤ x) (h : a * x ≤ S + x) : fac S * (x * a) ≤ fac (S + x) := by
  obtain ⟨m, hm⟩ : ∃ m, S + x = m + 1 := ⟨S + x - 1, by omega⟩
  rw [hm, fac_succ]
  refine Nat.mul_le_mul (fac_mono (a := S) (b := m) (by omega)) ?_
  rw [Nat.mul_comm x a]
  omega
theorem fac24 : fac 24 < 2 ^ 99 := by decide +kernel
def hB : SS := (sSeq (sAsg 2 (sIf (sAnd (sB (sOp2 gtD (sVar 3) (sC (.int 0)))) (sB (sOp2 eqD (sOp2 ixD (sVar 0) (sOp2 subD (sVar 3) (sC (.int 1)))) (sVar 4)))) (sOp2 addD (sVar 2) (sC (.int 1))) (sC (.int 1)))) (sAsg 1 (sOp2 mulD (sOp2 mulD (sVar 1) (sVar 4)) (sVar 2))))
theorem y_mulN {a b : Nat} (h1 : a < 2 ^ 100) (h2 : b < 2 ^ 100) : mulD (nD a) (nD b) = some (.dat (nD (a * b))) := by
  unfold nD
  rw [y_mul (by rw [Int.natAbs_natCast]; exact h1) (by rw [Int.natAbs_natCast]; exact h2)]
  rfl
theorem h_one {ks : List Nat} (h : IsKind ks) {k x w a : Nat} (hx : ks[k]? = some x) (hw : w ≤ fac (ks.take k).sum) (hw0 : 1 ≤ w) (ha : k = 0 ∨ ∃ y, ks[k - 1]? = some y ∧ a * y ≤ (ks.take k).sum) (ha2 : a ≤ 24) :
    ∃ a', 1 ≤ a' ∧ a' ≤ 25 ∧ a' * x ≤ (ks.take (k + 1)).sum ∧ w * (x * a') ≤ fac (ks.take (k + 1)).sum ∧ hB ⟨[.val (tD ks), .val (nD w), .val (nD a), .val (nD k), .val (nD x)], (0, 0, 0)⟩ = .ok .next ⟨[.val (tD ks), .val (nD (w * x * a')), .val (nD a'), .val (nD k), .val (nD x)], (0, 0, 0)⟩ := by
  have hm := List.mem_of_getElem? hx
  have x1 := h.pos x hm
  have x24 : x ≤ 24 := Nat.le_trans (mem_le_sum hm) h.sum
  have ts : (ks.take (k + 1)).sum = (ks.take k).sum + x := by rw [take_succ' hx, List.sum_append]; simp
  have tl : (ks.take (k + 1)).sum ≤ 24 := Nat.le_trans (sum_take_le ks (k + 1)) h.sum
  have wl : w < 2 ^ 99 := Nat.lt_of_le_of_lt (Nat.le_trans hw (fac_mono (by omega : (ks.take k).sum ≤ 24))) fac24
  have fin : ∀ a', 1 ≤ a' → a' ≤ 25 → a' * x ≤ (ks.take (k + 1)).sum → w * (x * a') ≤ fac (ks.take (k + 1)).sum ∧ mulD (nD w) (nD x) = some (.dat (nD (w * x))) ∧ mulD (nD (w * x)) (nD a') = some (.dat (nD (w * x * a'))) := by
    intro a' h1 h2 h3
    rw [ts] at h3
    have s1 := fac_step (S := (ks.take k).sum) x1 h3
    have s2 : w * (x * a') ≤ fac (ks.take (k + 1)).sum := by
      rw [ts]
      exact Nat.le_trans (Nat.mul_le_mul_right _ hw) s1
    have s3 : w * x < 2 ^ 100 := by
      have q : w * x ≤ w * (x * a') := Nat.mul_le_mul_left _ (Nat.le_mul_of_pos_right _ h1)
      have q2 := fac_mono tl
      have q3 := fac24
      have q4 : (2 : Nat) ^ 99 < 2 ^ 100 := by decide
      omega
    exact ⟨s2, y_mulN (by have q4 : (2 : Nat) ^ 99 < 2 ^ 100 := by decide
                          omega) (Nat.lt_of_le_of_lt x24 (by decide)), y_mulN s3 (Nat.lt_of_le_of_lt h2 (by decide))⟩
  by_cases hk : k = 0
  · obtain ⟨f1, f2, f3⟩ := fin 1 (by omega) (by omega) (by rw [ts]; omega)
    refine ⟨1, by omega, by omega, by rw [ts]; omega, f1, ?_⟩
    subst hk
    have f3' : mulD (nD (w * x)) (.int 1) = some (.dat (nD (w * x * 1))) := f3
    unfold hB
    simp [f2]
    rw [f3']
    simp [nD]
  · obtain ⟨y, hy, hay⟩ := ha.elim (fun z => absurd z hk) id
    have kp : 0 < k := by omega
    have ix : ixD (tD ks) (.int ((k : Int) - 1)) = some (.dat (nD y)) := ixT' (by omega) (by rw [show ((k : Int) - 1).toNat = k - 1 by omega]; exact hy)
    by_cases e : y = x
    · subst e
      obtain ⟨f1, f2, f3⟩ := fin (a + 1) (by omega) (by omega) (by rw [ts, Nat.succ_mul]; omega)
      refine ⟨a + 1, by omega, by omega, by rw [ts, Nat.succ_mul]; omega, f1, ?_⟩
      have f3' : mulD (nD (w * y)) (.int ((a : Int) + 1)) = some (.dat (nD (w * y * (a + 1)))) := f3
      unfold hB
      simp [kp, ix, f2]
      rw [f3']
      simp [nD]
    · obtain ⟨f1, f2, f3⟩ := fin 1 (by omega) (by omega) (by rw [ts]; omega)
      have e' : ¬ (y : Int) = (x : Int) := by omega
      refine ⟨1, by omega, by omega, by rw [ts]; omega, f1, ?_⟩
      have f3' : mulD (nD (w * x)) (.int 1) = some (.dat (nD (w * x * 1))) := f3
      unfold hB
      simp [kp, ix, e', f2]
      rw [f3']
      simp [nD]
theorem p_how_many (c : Cup) {ks : List Nat} (h : IsKind ks) : ∃ m, 1 ≤ m ∧ f_how_many_turns c [tD ks] = .ok (nD m) (0, 0, 0) := by
  have hl : ks.length ≤ 24 := Nat.le_trans (len_le_sum h.pos) h.sum
  obtain ⟨s', e, v3, v4, w, a, hw0, hw, ha, ha2, hs⟩ := for_enum (f := nD) (i := 3) (j := 4) (sb := hB) (fun k s => ∃ (v3 v4 : Sl) (w a : Nat), 1 ≤ w ∧ w ≤ fac (ks.take k).sum ∧ (k = 0 ∨ ∃ y, ks[k - 1]? = some y ∧ a * y ≤ (ks.take k).sum) ∧ a ≤ 24 ∧ s = ⟨[.val (tD ks), .val (nD w), .val (nD a), v3, v4], (0, 0, 0)⟩) (xs := ks)
    (s := ⟨[.val (tD ks), .val (nD 1), .val (nD 0), .no, .no], (0, 0, 0)⟩) ⟨.no, .no, 1, 0, by omega, by simp [fac_pos], .inl rfl, by omega, rfl⟩ (fun k x s hx ⟨v3, v4, w, a, hw0, hw, ha, ha2, hs⟩ => by
      subst hs
      obtain ⟨a', a1, a25, ax, wx, e⟩ := h_one h hx hw hw0 ha ha2
      have x1 := h.pos x (List.mem_of_getElem? hx)
      have a24 : a' ≤ 24 := by
        have t := Nat.le_trans (sum_take_le ks (k + 1)) h.sum
        have : a' ≤ a' * x := Nat.le_mul_of_pos_right _ x1
        omega
      refine ⟨_, e, .val (nD k), .val (nD x), w * x * a', a', ?_, ?_, .inr ⟨x, by simpa using hx, ax⟩, a24, rfl⟩
      · exact Nat.mul_pos (Nat.mul_pos hw0 x1) a1
      · rw [Nat.mul_assoc]
        exact wx)
  subst hs
  rw [List.take_length] at hw
  have fl : fac ks.sum < 2 ^ 99 := Nat.lt_of_le_of_lt (fac_mono h.sum) fac24
  have f1 : factD (nD ks.sum) = some (.dat (nD (fac ks.sum))) := by
    unfold factD nD
    simp only
    rw [if_pos ⟨by omega, by have := h.sum; omega⟩]
    rfl
  have f2 : fdivD (nD (fac ks.sum)) (nD w) = some (.dat (nD (fac ks.sum / w))) := by
    unfold fdivD iopC nD
    simp only
    have h3 : (w : Int).natAbs.log2 < 9000 := by
      rw [Int.natAbs_natCast]
      have : w.log2 < 100 := (Nat.log2_lt (by omega)).mpr (Nat.lt_of_le_of_lt hw (Nat.lt_trans fl (by decide)))
      omega
    rw [if_pos ⟨by omega, h3⟩]
    rfl
  refine ⟨fac ks.sum / w, Nat.div_pos hw hw0, ?_⟩
  refine defP_ret (s' := ⟨[.val (tD ks), .val (nD w), .val (nD a), v3, v4], (0, 0, 0)⟩) rfl (by decide) ?_
  refine seq_ok (s1 := ⟨[.val (tD ks), .no, .no, .no, .no], (0, 0, 0)⟩) ?_ (seq_ok (s1 := ⟨[.val (tD ks), .val (nD 1), .no, .no, .no], (0, 0, 0)⟩) ?_ (seq_ok (s1 := ⟨[.val (tD ks), .val (nD 1), .val (nD 0), .no, .no], (0, 0, 0)⟩) ?_ (seq_ok (for_ok (ds := enD (ks.map nD)) (s1 := ⟨[.val (tD ks), .val (nD 1), .val (nD 0), .no, .no], (0, 0, 0)⟩) ?_ e) ?_)))
  · simp [p_check_kind _ h]
  · simp [nD]
  · simp [nD]
  · simp
  · simp [y_sumT, f1, f2]
end Pg
end Eng

/-! k02, pure side: one turn -/
namespace Eng
namespace Pg
open PySem PySem.Spec PyProof.Rows L2 Evl Tn
variable [Tb]
theorem callC_ok {i : Nat} {f : FD} {sa : SA} {e e2 : List Sl} {c c2 c3 : Cup} {ds : List D} {d : D} (h0 : e[i]? = some .cup) (h1 : sa ⟨e, c⟩ = .ok ds ⟨e2, c2⟩) (h2 : f c2 ds = .ok d c3) : sCallC i f sa ⟨e, c⟩ = .ok (.dat d) ⟨e2, c3⟩ := by
  unfold sCallC
  simp only [h0, h1, x_bind, h2]
theorem Rp.sm {n : Nat} (h : n < 32) (k : Nat) : Rp (nD n) (.int n) k 5 := by
  have a := Rp.nat (n := n) (by omega) k
  refine ⟨a.py, a.sh, a.hd, a.dep, ?_, a.ls, a.ok⟩
  simp only [PyData.weight]
  split
  · omega
  · rename_i z
    rw [Int.natAbs_natCast]
    have hz : n ≠ 0 := fun e => z (by subst e; rfl)
    have : n.log2 < 5 := (Nat.log2_lt hz).mpr (by omega)
    omega
theorem Rp.smT {xs : List Nat} (h : ∀ x ∈ xs, x < 32) (h2 : xs.length ≤ 24) (k : Nat) : Rp (tD xs) (.tuple (xs.map fun x : Nat => PyData.int (x : Int))) (k + 1) 144 := by
  have a : Rps (xs.map nD) (xs.map fun x : Nat => PyData.int (x : Int)) k (xs.length * (5 + 1)) := Rps.map fun x hx => Rp.sm (h x hx) k
  exact (Rps.tup a).le (Nat.le_refl _) (by omega)
theorem Rp.rs {rs : List (List Nat)} (h : ∀ r ∈ rs, (∀ x ∈ r, x < 32) ∧ r.length ≤ 24) (h2 : rs.length ≤ 24) (k : Nat) : Rp (rsD rs) (.tuple (rs.map fun xs : List Nat => PyData.tuple (xs.map fun x : Nat => PyData.int (x : Int)))) (k + 2) 3480 := by
  have a : Rps (rs.map tD) (rs.map fun xs : List Nat => PyData.tuple (xs.map fun x : Nat => PyData.int (x : Int))) (k + 1) (rs.length * (144 + 1)) := Rps.map fun r hr => Rp.smT (h r hr).1 (h r hr).2 k
  exact (Rps.tup a).le (Nat.le_refl _) (by omega)
theorem rot_run {i j : Nat} {e : List Sl} {c : Cup} {r : List Nat} {g : Nat} (h1 : e[i]? = some (.val (tD r))) (h2 : e[j]? = some (.val (nD g))) (hg : g ≤ r.length) (hr : r.length ≤ 1000) : sOp2 addD (sSl (sVar i) (sPart (sVar j)) sNoP) (sSl (sVar i) sNoP (sPart (sVar j))) ⟨e, c⟩ = .ok (.dat (tD (r.drop g ++ r.take g))) ⟨e, c⟩ := by
  have c1 := cut_lo r g hg
  have c2 := cut_hi r g hg
  have a : addD (.tup ((r.drop g).map nD)) (.tup ((r.take g).map nD)) = some (.dat (tD (r.drop g ++ r.take g))) := by
    unfold addD
    simp only
    rw [if_pos (by rw [List.length_map, List.length_map, List.length_drop, List.length_take]; unfold line; omega)]
    unfold tD
    rw [List.map_append]
  have s1 : sSl (sVar i) (sPart (sVar j)) sNoP ⟨e, c⟩ = .ok (.dat (.tup ((r.drop g).map nD))) ⟨e, c⟩ := by
    rw [y_sl]
    simp only [y_var, h1, x_bind, y_part, h2, nD, y_noP, x_peek, tD, y_slT]
    rw [c1]
  have s2 : sSl (sVar i) sNoP (sPart (sVar j)) ⟨e, c⟩ = .ok (.dat (.tup ((r.take g).map nD))) ⟨e, c⟩ := by
    rw [y_sl]
    simp only [y_var, h1, x_bind, y_part, h2, nD, y_noP, x_peek, tD, y_slT]
    rw [c2]
  rw [y_op2, s1]
  simp only [x_bind, s2, x_peek, a]
theorem rot_leads {z : Int} {τ : Nat → Nat} {r : List Nat} (h : Leads z τ r) {g : Nat} (hg : g < r.length) : Leads z τ (r.drop g ++ r.take g) := by
  have hl : (r.drop g ++ r.take g).length = r.length := by rw [List.length_append, List.length_drop, List.length_take]; omega
  intro k x hx
  have hk : k < r.length := by
    have := (List.getElem?_eq_some_iff.mp hx).1
    omega
  rw [hl]
  rw [turned_get hg hk] at hx
  have e := h _ x hx
  have l0 : (0 : Int) < (r.length : Int) := by omega
  have m0 : 0 ≤ ((k : Int) + z) % (r.length : Int) := Int.emod_nonneg _ (by omega)
  have m1 : ((k : Int) + z) % (r.length : Int) < (r.length : Int) := Int.emod_lt_of_pos _ l0
  rw [turned_get hg (by omega), ← e]
  congr 1
  have key : ((((k + g) % r.length : Nat) : Int) + z) % (r.length : Int) = ((((k : Int) + z) % (r.length : Int)) + (g : Int)) % (r.length : Int) := by
    rw [Int.natCast_emod, Int.emod_add_emod, Int.emod_add_emod, Int.natCast_add]
    congr 1
    omega
  have k2 : (((((k : Int) + z) % (r.length : Int)).toNat + g) % r.length : Nat) = ((((((k : Int) + z) % (r.length : Int)) + (g : Int)) % (r.length : Int))).toNat := by
    have q : ((((k : Int) + z) % (r.length : Int)) + (g : Int)) = (((((k : Int) + z) % (r.length : Int)).toNat + g : Nat) : Int) := by
      rw [Int.natCast_add, Int.toNat_of_nonneg m0]
    rw [q, ← Int.natCast_emod, Int.toNat_natCast]
  rw [k2, key]
theorem rot_perm (r : List Nat) (g : Nat) : (r.drop g ++ r.take g).Perm r := by
  refine List.perm_append_comm.trans ?_
  rw [List.take_append_drop]
def insL {α : Type} (l : List α) (i : Nat) (x : α) : List α := l.take i ++ [x] ++ l.drop i
theorem insL_perm {α : Type} (x : α) (l : List α) (i : Nat) : (insL l i x).Perm (x :: l) := by
  unfold insL
  rw [List.append_assoc]
  refine List.perm_middle.trans (List.Perm.cons x ?_)
  show (l.take i ++ l.drop i).Perm l
  rw [List.take_append_drop]
section
variable {xs : List Nat}
def sI : SS := (sSeq (sAsg 9 (sCallC 0 f_l_sip (sCons (sOp1 lenD (sVar 7)) (sNil)))) (sIfS (sOr (sB (sOp2 gtD (sOp1 lenD (sVar 7)) (sC (.int 1)))) (sB (sOp2 eqD (sCallC 0 f_l_sip (sCons (sC (.int 2)) (sNil))) (sC (.int 0))))) (sDrop (sMut 6 fIns2 (sCons (sCallC 0 f_l_sip (sCons (sOp2 addD (sOp1 lenD (sVar 6)) (sC (.int 1))) (sNil))) (sCons (sOp2 addD (sSl (sVar 7) (sPart (sVar 9)) (sNoP)) (sSl (sVar 7) (sNoP) (sPart (sVar 9)))) (sNil))))) (sNext)))
def sS (a1 a2 a3 a4 a5 : Sl) (so : List (List Nat)) (a7 a8 a9 : Sl) (c : Cup) : S := ⟨[.cup, a1, a2, a3, a4, a5, .own (so.map tD), a7, a8, a9], c⟩
/-- one ring put in, turned -/
theorem put_run {b : Nat} {c : Cup} (g : GoodN b c) (hb : b ≤ 100000000) {r : List Nat} {at_ : Nat} (hat : at_ < r.length) (hr : r.length ≤ 24) {so : List (List Nat)} (hso : so.length ≤ 100) (a1 a2 a3 a4 a5 a8 : Sl) :
    ∃ i c', i ≤ so.length ∧ GoodN (b + 1) c' ∧ sDrop (sMut 6 fIns2 (sCons (sCallC 0 f_l_sip (sCons (sOp2 addD (sOp1 lenD (sVar 6)) (sC (.int 1))) (sNil))) (sCons (sOp2 addD (sSl (sVar 7) (sPart (sVar 9)) (sNoP)) (sSl (sVar 7) (sNoP) (sPart (sVar 9)))) (sNil)))) (sS a1 a2 a3 a4 a5 so (.val (tD r)) a8 (.val (nD at_)) c) = .ok .next (sS a1 a2 a3 a4 a5 (insL so i (r.drop at_ ++ r.take at_)) (.val (tD r)) a8 (.val (nD at_)) c') := by
  obtain ⟨i, c', e, hi, g'⟩ := p_sip g (by omega) (top := so.length + 1) (by omega) (by omega)
  have e' : f_l_sip c [.int ((so.length : Int) + 1)] = .ok (nD i) c' := e
  have h1 : sCallC 0 f_l_sip (sCons (sOp2 addD (sOp1 lenD (sVar 6)) (sC (.int 1))) (sNil)) (sS a1 a2 a3 a4 a5 so (.val (tD r)) a8 (.val (nD at_)) c) = .ok (.dat (nD i)) (sS a1 a2 a3 a4 a5 so (.val (tD r)) a8 (.val (nD at_)) c') := callC_ok rfl (by simp) e'
  have h2 := rot_run (i := 7) (j := 9) (e := [.cup, a1, a2, a3, a4, a5, .own (so.map tD), .val (tD r), a8, .val (nD at_)]) (c := c') (r := r) (g := at_) rfl rfl (by omega) (by omega)
  have fi : fIns2 (so.map tD) [nD i, tD (r.drop at_ ++ r.take at_)] = some (.non, (insL so i (r.drop at_ ++ r.take at_)).map tD) := by
    unfold fIns2 nD
    simp only
    rw [if_pos ⟨by omega, by omega, by rw [List.length_map]; unfold line; omega⟩, Int.toNat_natCast]
    unfold insL
    rw [List.map_append, List.map_append, List.map_take, List.map_drop]
    rfl
  have m := mut_ok (i := 6) (f := fIns2) (sa := (sCons (sCallC 0 f_l_sip (sCons (sOp2 addD (sOp1 lenD (sVar 6)) (sC (.int 1))) (sNil))) (sCons (sOp2 addD (sSl (sVar 7) (sPart (sVar 9)) (sNoP)) (sSl (sVar 7) (sNoP) (sPart (sVar 9)))) (sNil)))) (s := sS a1 a2 a3 a4 a5 so (.val (tD r)) a8 (.val (nD at_)) c) (s2 := sS a1 a2 a3 a4 a5 so (.val (tD r)) a8 (.val (nD at_)) c') (as := [nD i, tD (r.drop at_ ++ r.take at_)]) (ds0 := so.map tD) (ds := so.map tD) rfl (by
    rw [y_cons, h1]
    simp only [x_bind, x_frz]
    rw [y_cons]
    unfold sS
    rw [h2]
    simp only [x_bind, x_frz, x_nil]) rfl fi
  refine ⟨i, c', by omega, g', ?_⟩
  unfold sDrop
  rw [m]
  rfl
structure Some (xs : List Nat) (k : Nat) (so sel : List (List Nat)) : Prop where
  sub : sel.Sublist ((ringsN xs).take k)
  perm : so.flatten.Perm sel.flatten
  ne : ∀ r ∈ so, r ≠ [] ∧ Leads 1 (ap xs) r
  all : ∀ r ∈ (ringsN xs).take k, 1 < r.length → r ∈ sel
  len : so.length ≤ k
theorem ring_leads1 (T : IsTurn xs) {x : Nat} (h : x < xs.length) : Leads 1 (ap xs) (ring xs x) := by
  intro k y hy
  have := ring_leads T h 1 k y hy
  rw [T.itI_one (T.ring_lt h (List.mem_of_getElem? hy))] at this
  exact this
theorem some_step (T : IsTurn xs) {k : Nat} {r : List Nat} (hx : (ringsN xs)[k]? = some r) {so sel : List (List Nat)} (S : Some xs k so sel) {b : Nat} {c : Cup} (g : GoodN b c) (hb : b ≤ 10000000) (a1 a2 a3 a4 a5 a8 a9 : Sl) :
    ∃ so' sel' a9' c', Some xs (k + 1) so' sel' ∧ GoodN (b + 3) c' ∧ sI (sS a1 a2 a3 a4 a5 so (.val (tD r)) a8 a9 c) = .ok .next (sS a1 a2 a3 a4 a5 so' (.val (tD r)) a8 a9' c') := by
  have hm := List.mem_of_getElem? hx
  obtain ⟨x, hxr, rfl⟩ := List.mem_map.mp hm
  have hxn := (mem_reps.mp hxr).1
  have hrl : 0 < (ring xs x).length := by rw [ring_len]; exact per_pos xs x
  have hr24 : (ring xs x).length ≤ 24 := by rw [ring_len]; exact Nat.le_trans (T.per_le hxn) T.hi
  have hk24 : k < 24 := by
    have a := (List.getElem?_eq_some_iff.mp hx).1
    have := rings_count T
    omega
  have tk := take_succ' hx
  obtain ⟨g1, c1, e1, hg1, G1⟩ := p_sip g (by omega) (top := (ring xs x).length) hrl (by omega)
  have s1 : sAsg 9 (sCallC 0 f_l_sip (sCons (sOp1 lenD (sVar 7)) (sNil))) (sS a1 a2 a3 a4 a5 so (.val (tD (ring xs x))) a8 a9 c) = .ok .next (sS a1 a2 a3 a4 a5 so (.val (tD (ring xs x))) a8 (.val (nD g1)) c1) := by
    have h1 : sCallC 0 f_l_sip (sCons (sOp1 lenD (sVar 7)) (sNil)) (sS a1 a2 a3 a4 a5 so (.val (tD (ring xs x))) a8 a9 c) = .ok (.dat (nD g1)) (sS a1 a2 a3 a4 a5 so (.val (tD (ring xs x))) a8 a9 c1) := callC_ok rfl (by simp) e1
    rw [y_asg, h1]
    simp [sS]
  have put : ∀ {b c}, GoodN b c → b ≤ 100000000 → ∃ so' sel' c', Some xs (k + 1) so' sel' ∧ GoodN (b + 1) c' ∧ sDrop (sMut 6 fIns2 (sCons (sCallC 0 f_l_sip (sCons (sOp2 addD (sOp1 lenD (sVar 6)) (sC (.int 1))) (sNil))) (sCons (sOp2 addD (sSl (sVar 7) (sPart (sVar 9)) (sNoP)) (sSl (sVar 7) (sNoP) (sPart (sVar 9)))) (sNil)))) (sS a1 a2 a3 a4 a5 so (.val (tD (ring xs x))) a8 (.val (nD g1)) c) = .ok .next (sS a1 a2 a3 a4 a5 so' (.val (tD (ring xs x))) a8 (.val (nD g1)) c') := by
    intro b c gg hbb
    obtain ⟨i, c', hi, g', e⟩ := put_run gg hbb hg1 hr24 (so := so) (by have := S.len; omega) a1 a2 a3 a4 a5 a8
    have ip := insL_perm ((ring xs x).drop g1 ++ (ring xs x).take g1) so i
    refine ⟨_, sel ++ [ring xs x], c', ⟨?_, ?_, ?_, ?_, ?_⟩, g', e⟩
    · rw [tk]
      exact List.Sublist.append S.sub (List.Sublist.refl _)
    · refine ip.flatten.trans ?_
      rw [List.flatten_cons, List.flatten_append]
      refine (List.Perm.append (rot_perm _ g1) S.perm).trans ?_
      refine List.perm_append_comm.trans ?_
      simp
    · intro r hr
      rcases List.mem_cons.mp (ip.mem_iff.mp hr) with z | z
      · subst z
        refine ⟨fun z => ?_, rot_leads (ring_leads1 T hxn) hg1⟩
        have := (rot_perm (ring xs x) g1).length_eq
        rw [z] at this
        simp at this
        omega
      · exact S.ne r z
    · intro r hr h1
      rw [tk] at hr
      rcases List.mem_append.mp hr with z | z
      · exact List.mem_append.mpr (.inl (S.all r z h1))
      · exact List.mem_append.mpr (.inr z)
    · rw [ip.length_eq, List.length_cons]
      have := S.len
      omega
  by_cases hlen : 1 < (ring xs x).length
  · obtain ⟨so', sel', c', S', g', e⟩ := put G1 (by omega)
    refine ⟨so', sel', .val (nD g1), c', S', g'.le (by omega), seq_ok s1 ?_⟩
    rw [y_ifs]
    have t : sOr (sB (sOp2 gtD (sOp1 lenD (sVar 7)) (sC (.int 1)))) (sB (sOp2 eqD (sCallC 0 f_l_sip (sCons (sC (.int 2)) (sNil))) (sC (.int 0)))) (sS a1 a2 a3 a4 a5 so (.val (tD (ring xs x))) a8 (.val (nD g1)) c1) = .ok true (sS a1 a2 a3 a4 a5 so (.val (tD (ring xs x))) a8 (.val (nD g1)) c1) := by
      have hI : (1 : Int) < ((ring xs x).length : Int) := by omega
      simp [sS]
      simp only [hI, decide_true]
    rw [t]
    exact e
  · obtain ⟨q, c2, e2, hq, G2⟩ := p_sip G1 (by omega) (top := 2) (by decide) (by decide)
    have e2' : f_l_sip c1 [.int 2] = .ok (nD q) c2 := e2
    have hc : sCallC 0 f_l_sip (sCons (sC (.int 2)) (sNil)) (sS a1 a2 a3 a4 a5 so (.val (tD (ring xs x))) a8 (.val (nD g1)) c1) = .ok (.dat (nD q)) (sS a1 a2 a3 a4 a5 so (.val (tD (ring xs x))) a8 (.val (nD g1)) c2) := callC_ok rfl (by simp) e2'
    have t : sOr (sB (sOp2 gtD (sOp1 lenD (sVar 7)) (sC (.int 1)))) (sB (sOp2 eqD (sCallC 0 f_l_sip (sCons (sC (.int 2)) (sNil))) (sC (.int 0)))) (sS a1 a2 a3 a4 a5 so (.val (tD (ring xs x))) a8 (.val (nD g1)) c1) = .ok (decide (q = 0)) (sS a1 a2 a3 a4 a5 so (.val (tD (ring xs x))) a8 (.val (nD g1)) c2) := by
      have t1 : sB (sOp2 gtD (sOp1 lenD (sVar 7)) (sC (.int 1))) (sS a1 a2 a3 a4 a5 so (.val (tD (ring xs x))) a8 (.val (nD g1)) c1) = .ok false (sS a1 a2 a3 a4 a5 so (.val (tD (ring xs x))) a8 (.val (nD g1)) c1) := by
        have hI : ¬ (1 : Int) < ((ring xs x).length : Int) := by omega
        simp [sS]
        omega
      rw [y_or, t1]
      simp only [x_bind, y_b, y_op2, hc, x_c, x_peek, x_eqN1]
      congr 1
      simp
    by_cases hq0 : q = 0
    · obtain ⟨so', sel', c', S', g', e⟩ := put G2 (by omega)
      refine ⟨so', sel', .val (nD g1), c', S', g'.le (by omega), seq_ok s1 ?_⟩
      rw [y_ifs, t]
      simp only [hq0, decide_true, x_bind]
      exact e
    · refine ⟨so, sel, .val (nD g1), c2, ⟨?_, S.perm, S.ne, ?_, by have := S.len; omega⟩, G2.le (by omega), seq_ok s1 ?_⟩
      · rw [tk]
        exact S.sub.trans (List.sublist_append_left _ _)
      · intro r hr h1
        rw [tk] at hr
        rcases List.mem_append.mp hr with z | z
        · exact S.all r z h1
        · have : r = ring xs x := by simpa using z
          subst this
          exact absurd h1 hlen
      · rw [y_ifs, t]
        simp only [hq0, decide_false, x_bind, x_next]
end
end Pg
end Eng

/-! k02, pure side: one turn, the whole -/
namespace Eng
namespace Pg
open PySem PySem.Spec PyProof.Rows L2 Evl Tn
variable [Tb]
section
variable {xs : List Nat}
abbrev told (xs : List Nat) : List D := [rsD (ringsN xs), tD (kN (lens xs)), .bl (evN xs), tD (movN xs)]
theorem kN_small (T : IsTurn xs) : (∀ x ∈ kN (lens xs), x < 32) ∧ (kN (lens xs)).length ≤ 24 := by
  have K := lens_kind T
  refine ⟨fun x hx => ?_, Nat.le_trans (len_le_sum K.pos) K.sum⟩
  have := mem_le_sum hx
  have := K.sum
  omega
theorem rings_small (T : IsTurn xs) : ∀ r ∈ ringsN xs, (∀ x ∈ r, x < 32) ∧ r.length ≤ 24 := by
  intro r hr
  obtain ⟨x, hx, rfl⟩ := List.mem_map.mp hr
  have hx' := (mem_reps.mp hx).1
  have := T.hi
  exact ⟨fun y hy => by have := T.ring_lt hx' hy; omega, by rw [ring_len]; exact Nat.le_trans (T.per_le hx') T.hi⟩
theorem mov_small (T : IsTurn xs) : (∀ x ∈ movN xs, x < 32) ∧ (movN xs).length ≤ 24 := by
  have := T.hi
  refine ⟨fun x hx => ?_, ?_⟩
  · have := List.mem_range.mp (List.mem_filter.mp hx).1
    omega
  · refine Nat.le_trans (List.length_filter_le _ _) ?_
    rw [List.length_range]
    exact this
theorem told_rp (T : IsTurn xs) : ∃ p, Rp (.lst (told xs)) p 4 20000 := by
  have r1 := (Rp.rs (rings_small T) (rings_count T) 1)
  have r2 := (Rp.smT (kN_small T).1 (kN_small T).2 2)
  have r3 := Rp.bl (evN xs) 3
  have r4 := (Rp.smT (mov_small T).1 (mov_small T).2 2)
  exact ⟨_, (Rps.lst (Rps.cons r1 (Rps.cons r2 (Rps.cons r3 (Rps.cons r4 (Rps.nil (w := 0))))))).le (Nat.le_refl _) (by omega)⟩
theorem two_rp (T : IsTurn xs) : ∃ p, Rp (.lst [rsD (ringsN xs), tD (kN (lens xs))]) p 4 20000 := by
  have r1 := (Rp.rs (rings_small T) (rings_count T) 1)
  have r2 := (Rp.smT (kN_small T).1 (kN_small T).2 2)
  exact ⟨_, (Rps.lst (Rps.cons r1 (Rps.cons r2 (Rps.nil (w := 0))))).le (Nat.le_refl _) (by omega)⟩
theorem some_turn (T : IsTurn xs) {so sel : List (List Nat)} (S : Some xs (ringsN xs).length so sel) : (∀ r ∈ so, r ≠ []) ∧ so.flatten.Nodup ∧ (∀ x ∈ so.flatten, x < xs.length) ∧ (∀ r ∈ so, Leads 1 (ap xs) r) ∧ glN xs.length (ap xs) so.flatten = xs := by
  have sub := S.sub
  rw [List.take_length] at sub
  have all := S.all
  rw [List.take_length] at all
  have selnd : sel.flatten.Nodup := by
    have := T.rings_nodup
    unfold List.Nodup at this ⊢
    rw [List.pairwise_flatten] at this ⊢
    exact ⟨fun l hl => this.1 l (sub.subset hl), this.2.sublist sub⟩
  have lt : ∀ x ∈ so.flatten, x < xs.length := fun x hx => by
    have := S.perm.mem_iff.mp hx
    obtain ⟨r, hr, hxr⟩ := List.mem_flatten.mp this
    exact T.mem_rings.mp (List.mem_flatten.mpr ⟨r, sub.subset hr, hxr⟩)
  refine ⟨fun r hr => (S.ne r hr).1, S.perm.nodup_iff.mpr selnd, lt, fun r hr => (S.ne r hr).2, ?_⟩
  conv => rhs; rw [eq_map xs]
  refine List.map_congr_left fun y hy => ?_
  have hy' := List.mem_range.mp hy
  by_cases hm : y ∈ so.flatten
  · rw [if_pos hm]
  · rw [if_neg hm]
    obtain ⟨m, hmr, hym⟩ := T.rep_of hy'
    have hmn := (mem_reps.mp hmr).1
    have hr : ring xs m ∈ ringsN xs := List.mem_map.mpr ⟨m, hmr, rfl⟩
    have hl : ¬ 1 < (ring xs m).length := fun h => hm (S.perm.mem_iff.mpr (List.mem_flatten.mpr ⟨_, all _ hr h, hym⟩))
    rw [ring_len] at hl
    have p1 : per xs m = 1 := by have := per_pos xs m; omega
    obtain ⟨k, _, rfl⟩ := mem_ring.mp hym
    have py := T.per_it hmn k
    rw [p1] at py
    have := T.it_per hy'
    rw [py] at this
    exact this.symm
theorem p_single_right {b : Nat} {c : Cup} (g : GoodN b c) (hb : b ≤ 1000000) (T : IsTurn xs) : ∃ c', f_l_single_right_k02 c [tD xs] = .ok (.bl true) c' ∧ GoodN (b + 100) c' := by
  have hi := T.hi
  have K := lens_kind T
  obtain ⟨s', e7, so, sel, v7, v9, c7, S7, g7, hs⟩ := for_map (f := tD) (i := 7) (sb := sI) (fun k s => ∃ so sel v7 v9 c', Some xs k so sel ∧ GoodN (b + 3 * k) c' ∧ s = sS (.val (tD xs)) (.val (rsD (ringsN xs))) (.own (told xs)) (.val (.bl (evN xs))) (.own (told xs)) so v7 .no v9 c') (xs := ringsN xs)
    (s := sS (.val (tD xs)) (.val (rsD (ringsN xs))) (.own (told xs)) (.val (.bl (evN xs))) (.own (told xs)) [] .no .no .no c) ⟨[], [], .no, .no, c, ⟨by simp, .refl _, fun r hr => by simp at hr, fun r hr => by simp at hr, by simp⟩, g, rfl⟩ (fun k r s hx ⟨so, sel, v7, v9, c', S, g', hs⟩ => by
      subst hs
      have hk : k < 24 := by
        have a := (List.getElem?_eq_some_iff.mp hx).1
        have := rings_count T
        omega
      obtain ⟨so', sel', a9, c2, S2, g2, e2⟩ := some_step T hx S g' (by omega) (.val (tD xs)) (.val (rsD (ringsN xs))) (.own (told xs)) (.val (.bl (evN xs))) (.own (told xs)) .no v9
      exact ⟨_, e2, so', sel', .val (tD r), a9, c2, S2, g2, rfl⟩)
  subst hs
  have rc := rings_count T
  obtain ⟨n1, n2, n3, n4, n5⟩ := some_turn T S7
  have tof := p_turn_of (0, 0, 0) (τ := ap xs) (rs := so) (n := xs.length) T.lo T.hi n1 n2 n3 n4
  rw [n5] at tof
  have B := T.back
  have kb : kN (lens (backN xs)) = kN (lens xs) := by
    rw [T.back_eq]
    have := kind_pow_eq T (-1)
    rw [this]
    have k1 : kpow (kN (lens xs)) (-1 : Int).natAbs = kN (lens xs) := by
      have : ∀ ls : List Nat, kpow ls 1 = ls := by
        intro ls
        induction ls with
        | nil => rfl
        | cons L ls ih =>
          have e1 : kpow (L :: ls) 1 = List.replicate (Nat.gcd L 1) (L / Nat.gcd L 1) ++ kpow ls 1 := by simp [kpow]
          rw [e1, ih]
          simp
      exact this _
    rw [k1]
    exact kN_eq (kN_perm _)
  have tb : thenN xs (backN xs) = still xs.length := by
    rw [T.back_eq]
    have := T.then_powI 1 (-1)
    rw [T.powI_one] at this
    rw [this]
    exact T.powI_zero
  have bb : backN (backN xs) = xs := by
    rw [T.back_eq, T.back_powI]
    exact T.powI_one
  obtain ⟨m, hm, hmany⟩ := p_how_many (0, 0, 0) K
  refine ⟨c7, ?_, g7.le (by omega)⟩
  refine defC_ret (s' := sS (.val (tD xs)) (.val (rsD (ringsN xs))) (.own (told xs)) (.val (.bl (evN xs))) (.own (told xs)) so v7 (.val (tD (backN xs))) v9 c7) rfl (by decide) ?_
  refine seq_ok (s1 := ⟨[.cup, .val (tD xs), .val (rsD (ringsN xs)), .no, .no, .no, .no, .no, .no, .no], c⟩) ?_ ?_
  · simp [p_l_loops _ T]
  refine seq_ok (s1 := ⟨[.cup, .val (tD xs), .val (rsD (ringsN xs)), .own (told xs), .no, .no, .no, .no, .no, .no], c⟩) ?_ ?_
  · simp [p_rings _ T, p_kind_of _ T, p_is_even _ T, p_moved _ T, line]
  refine seq_ok (s1 := ⟨[.cup, .val (tD xs), .val (rsD (ringsN xs)), .own (told xs), .val (.bl (evN xs)), .no, .no, .no, .no, .no], c⟩) ?_ ?_
  · have ev : evN xs = decide (((inv xs : Nat) : Int) % 2 = 0) := by
      unfold evN
      congr 1
      exact propext ⟨fun h => by omega, fun h => by omega⟩
    rw [ev]
    have md : modD (nD (inv xs)) (.int 2) = some (.dat (.int (((inv xs : Nat) : Int) % 2))) := y_modP _ _ (by decide)
    simp [p_l_crossed _ T, md]
  refine seq_ok (s1 := ⟨[.cup, .val (tD xs), .val (rsD (ringsN xs)), .own (told xs), .val (.bl (evN xs)), .own (told xs), .no, .no, .no, .no], c⟩) ?_ ?_
  · have l := lcL_fm (i := 9) (st := sB (sOp2 neD (sOp2 ixD (sVar 1) (sVar 9)) (sVar 9))) (se := sVar 9) (p := fun d => match d with | .int y => !decide ((ap xs y.toNat : Int) = y) | _ => false) (g := fun d => d) (s := ⟨[.cup, .val (tD xs), .val (rsD (ringsN xs)), .own (told xs), .val (.bl (evN xs)), .no, .no, .no, .no, .no], c⟩) rfl rfl ((List.range xs.length).map nD) [] (fun d hd => by
      obtain ⟨y, hy, rfl⟩ := List.mem_map.mp hd
      have ix := ixT (List.mem_range.mp hy)
      simp [ix]
      simp [nD]) (fun d hd => by simp) (by simp [line]; omega)
    have e : sLc (siRange1 (sCons (sOp1 lenD (sVar 1)) (sNil))) (sgName 9) (sB (sOp2 neD (sOp2 ixD (sVar 1) (sVar 9)) (sVar 9))) (sVar 9) [9] ⟨[.cup, .val (tD xs), .val (rsD (ringsN xs)), .own (told xs), .val (.bl (evN xs)), .no, .no, .no, .no, .no], c⟩ = .ok (.fr ((movN xs).map nD)) ⟨[.cup, .val (tD xs), .val (rsD (ringsN xs)), .own (told xs), .val (.bl (evN xs)), .no, .no, .no, .no, .no], c⟩ := by
      unfold sLc
      rw [rg1 (n := xs.length) (s1 := ⟨[.cup, .val (tD xs), .val (rsD (ringsN xs)), .own (told xs), .val (.bl (evN xs)), .no, .no, .no, .no, .no], c⟩) (by simp) (by omega)]
      simp only [x_bind]
      rw [rgD_nD]
      refine l.trans ?_
      rw [List.nil_append, List.map_id', List.filter_map]
      unfold movN
      congr 3
      refine List.filter_congr fun y _ => ?_
      simp only [Function.comp, nD, Int.toNat_natCast]
      by_cases q : ap xs y = y
      · simp [q]
      · have q' : ¬ (ap xs y : Int) = (y : Int) := by omega
        simp [q, q']
    have t : sOp1 tupleD (sLc (siRange1 (sCons (sOp1 lenD (sVar 1)) (sNil))) (sgName 9) (sB (sOp2 neD (sOp2 ixD (sVar 1) (sVar 9)) (sVar 9))) (sVar 9) [9]) ⟨[.cup, .val (tD xs), .val (rsD (ringsN xs)), .own (told xs), .val (.bl (evN xs)), .no, .no, .no, .no, .no], c⟩ = .ok (.dat (tD (movN xs))) ⟨[.cup, .val (tD xs), .val (rsD (ringsN xs)), .own (told xs), .val (.bl (evN xs)), .no, .no, .no, .no, .no], c⟩ := by
      rw [y_op1, e]
      rfl
    simp [-y_op1, p_l_lens _ T, t, line]
  refine seq_ok (s1 := ⟨[.cup, .val (tD xs), .val (rsD (ringsN xs)), .own (told xs), .val (.bl (evN xs)), .own (told xs), .no, .no, .no, .no], c⟩) ?_ ?_
  · obtain ⟨p4, r4⟩ := told_rp T
    obtain ⟨s4, q4, q5, _⟩ := Rp.repr (ds := told xs) (.inl rfl) r4 (by decide) (by decide)
    obtain ⟨p2, r2⟩ := two_rp T
    obtain ⟨s2, q6, q7, _⟩ := Rp.repr (ds := [rsD (ringsN xs), tD (kN (lens xs))]) (.inl rfl) r2 (by decide) (by decide)
    have cut : cutL (told xs) none (some 2) = [rsD (ringsN xs), tD (kN (lens xs))] := rfl
    simp [q4, q5, p_rings _ T, p_kind_of _ T, line, q6, cut, q7]
  refine seq_ok (s1 := sS (.val (tD xs)) (.val (rsD (ringsN xs))) (.own (told xs)) (.val (.bl (evN xs))) (.own (told xs)) [] .no .no .no c) ?_ ?_
  · simp [sS]
  refine seq_ok (for_ok (ds := (ringsN xs).map tD) (s1 := sS (.val (tD xs)) (.val (rsD (ringsN xs))) (.own (told xs)) (.val (.bl (evN xs))) (.own (told xs)) [] .no .no .no c) ?_ e7) ?_
  · simp [sS]
  refine seq_ok (s1 := sS (.val (tD xs)) (.val (rsD (ringsN xs))) (.own (told xs)) (.val (.bl (evN xs))) (.own (told xs)) so v7 .no v9 c7) ?_ ?_
  · have tp : D.tup (so.map tD) = rsD so := rfl
    simp [sS, tp, tof]
  refine seq_ok (s1 := sS (.val (tD xs)) (.val (rsD (ringsN xs))) (.own (told xs)) (.val (.bl (evN xs))) (.own (told xs)) so v7 (.val (tD (backN xs))) v9 c7) ?_ ?_
  · simp [sS, p_back _ T]
  refine seq_ok (s1 := sS (.val (tD xs)) (.val (rsD (ringsN xs))) (.own (told xs)) (.val (.bl (evN xs))) (.own (told xs)) so v7 (.val (tD (backN xs))) v9 c7) ?_ ?_
  · simp [sS, p_one_then _ T (show xs.length = (backN xs).length from (back_len xs).symm), tb, p_l_still _ (show xs.length ≤ 1000 by omega), p_back _ B, bb]
  · have ix : ixD (.lst (told xs)) (.int 1) = some (.dat (tD (kN (lens xs)))) := rfl
    have eqR : eqD (rsD (ringsN (backN xs))) (rsD (ringsN (backN xs))) = some (.dat (.bl true)) := by
      have := eqs_nat.tup.tup.eq (by decide) (ringsN (backN xs)) (ringsN (backN xs))
      rw [decide_eq_true rfl] at this
      exact this
    have mp : (0 : Int) < (m : Int) := by omega
    simp [sS, p_kind_of _ B, kb, ix, p_rings _ B, p_l_loops _ B, eqR, hmany]
    omega
end
end Pg
end Eng

/-! turns that go together, renamed rings -/
namespace Tn
variable {p s t xs ys : List Nat}
/-- two turns that do the same where a turn leads -/
theorem IsTurn.ext_at (P : IsTurn p) (e1 : xs.length = p.length) (e2 : ys.length = p.length) (h : ∀ x, x < p.length → ap xs (ap p x) = ap ys (ap p x)) : xs = ys := by
  apply turn_ext (e1.trans e2.symm)
  intro y hy
  obtain ⟨x, hx, rfl⟩ := P.ap_surj (e1 ▸ hy)
  exact h x hx
theorem then_assoc (S : IsTurn s) (T : IsTurn t) (e : s.length = t.length) : thenN (thenN s t) p = thenN s (thenN t p) := by
  apply turn_ext (by simp [then_len])
  intro x hx
  rw [then_len, then_len] at hx
  rw [ap_then (by rw [then_len]; exact hx), ap_then hx, ap_then hx, ap_then (e ▸ S.ap_lt hx)]
theorem other_way (P : IsTurn p) (S : IsTurn s) (e : p.length = s.length) : thenN s p = cjN p (thenN p s) := by
  have PS := P.then S e
  refine P.ext_at (by rw [then_len, e]) (cj_len _ _) fun x hx => ?_
  rw [P.ap_cj PS (by rw [then_len]) hx, ap_then hx, ap_then (e ▸ P.ap_lt hx)]
theorem back_then (P : IsTurn p) (S : IsTurn s) (e : p.length = s.length) : backN (thenN p s) = thenN (backN s) (backN p) := by
  have PS := P.then S e
  have l1 : (thenN p s).length = p.length := then_len _ _
  refine PS.ext_at (back_len _) (by rw [then_len, back_len, l1, e]) fun x hx => ?_
  rw [l1] at hx
  rw [PS.back_ap (by rw [l1]; exact hx), ap_then (by rw [back_len, ap_then hx]; exact S.ap_lt (e ▸ P.ap_lt hx)), ap_then hx, S.back_ap (e ▸ P.ap_lt hx), P.back_ap hx]
theorem cj_then (P : IsTurn p) (S : IsTurn s) (T : IsTurn t) (e1 : p.length = s.length) (e2 : p.length = t.length) : thenN (cjN p s) (cjN p t) = cjN p (thenN s t) := by
  have ST := S.then T (e1.symm.trans e2)
  refine P.ext_at (by rw [then_len, cj_len]) (cj_len _ _) fun x hx => ?_
  have hs : x < s.length := e1 ▸ hx
  rw [ap_then (by rw [cj_len]; exact P.ap_lt hx), P.ap_cj S e1 hx, P.ap_cj T e2 (by rw [e1]; exact S.ap_lt hs), P.ap_cj ST (by rw [then_len]; exact e1) hx, ap_then hs]
theorem cj_inj (P : IsTurn p) (S : IsTurn s) (T : IsTurn t) (e1 : p.length = s.length) (e2 : p.length = t.length) : cjN p s = cjN p t ↔ s = t := by
  constructor
  · intro h
    apply turn_ext (e1.symm.trans e2)
    intro x hx
    have hp : x < p.length := e1 ▸ hx
    have q : ap (cjN p s) (ap p x) = ap (cjN p t) (ap p x) := by rw [h]
    rw [P.ap_cj S e1 hp, P.ap_cj T e2 hp] at q
    exact P.ap_inj (by rw [e1]; exact S.ap_lt hx) (by rw [e2]; exact T.ap_lt (e2 ▸ hp)) q
  · intro h; rw [h]
theorem cj_fix (P : IsTurn p) (S : IsTurn s) (e : p.length = s.length) : cjN p s = s ↔ thenN p s = thenN s p := by
  constructor
  · intro h
    apply turn_ext (by rw [then_len, then_len]; exact e)
    intro x hx
    rw [then_len] at hx
    rw [ap_then hx, ap_then (e ▸ hx)]
    have q := P.ap_cj S e hx
    rw [h] at q
    exact q
  · intro h
    refine P.ext_at (cj_len _ _) e.symm fun x hx => ?_
    rw [P.ap_cj S e hx]
    have q : ap (thenN p s) x = ap (thenN s p) x := by rw [h]
    rw [ap_then hx, ap_then (e ▸ hx)] at q
    exact q.symm
theorem cj_cj (P : IsTurn p) (T : IsTurn t) (S : IsTurn s) (e1 : p.length = s.length) (e2 : t.length = s.length) : cjN p (cjN t s) = cjN (thenN t p) s := by
  have TP := T.then P (e2.trans e1.symm)
  have lt : (thenN t p).length = t.length := then_len _ _
  refine TP.ext_at (by rw [cj_len, lt, e1, e2]) (cj_len _ _) fun x hx => ?_
  rw [lt] at hx
  have hs : x < s.length := e2 ▸ hx
  rw [TP.ap_cj S (by rw [lt]; exact e2) (by rw [lt]; exact hx), ap_then hx, ap_then (by rw [e2]; exact S.ap_lt hs), P.ap_cj (T.cj S e2) (by rw [cj_len, e1, e2]) (by rw [e1, ← e2]; exact T.ap_lt hx), T.ap_cj S e2 hx]
/-! ### rings as lots -/
theorem IsTurn.ring_perm (T : IsTurn xs) {x y : Nat} (h : x < xs.length) (m : y ∈ ring xs x) : (ring xs y).Perm (ring xs x) := by
  have hy := T.ring_lt h m
  refine (List.perm_ext_iff_of_nodup (T.ring_nodup hy) (T.ring_nodup h)).mpr fun z => ⟨fun q => T.ring_trans h m q, fun q => T.ring_trans hy (T.ring_symm h m) q⟩
theorem IsTurn.reps_apart (T : IsTurn xs) {a b y : Nat} (ha : a ∈ reps xs) (hb : b ∈ reps xs) (h1 : y ∈ ring xs a) (h2 : y ∈ ring xs b) : a = b := by
  have ha' := mem_reps.mp ha
  have hb' := mem_reps.mp hb
  have q1 := isMin_iff.mp hb'.2 a (T.ring_trans hb'.1 h2 (T.ring_symm ha'.1 h1))
  have q2 := isMin_iff.mp ha'.2 b (T.ring_trans ha'.1 h1 (T.ring_symm hb'.1 h2))
  omega
theorem IsTurn.ring_cj (P : IsTurn p) (S : IsTurn s) (e : p.length = s.length) {x : Nat} (h : x < p.length) : ring (cjN p s) (ap p x) = (ring s x).map (ap p) := by
  unfold ring
  rw [P.per_cj S e h, List.map_map]
  exact List.map_congr_left fun k _ => P.it_cj S e h k
theorem reps_nodup (xs : List Nat) : (reps xs).Nodup := List.Pairwise.filter _ List.nodup_range
theorem IsTurn.lots_perm (P : IsTurn p) (S : IsTurn s) (e : p.length = s.length) {f : List Nat → List Nat} (hf : ∀ l m : List Nat, l.Perm m → f l = f m) (hi : ∀ l, (f l).Perm l) :
    ((ringsN s).map fun r => f (r.map (ap p))).Perm ((ringsN (cjN p s)).map f) := by
  have C := P.cj S e
  have inj : ∀ l m, f l = f m → ∀ y, y ∈ l → y ∈ m := fun l m q y hy => (hi m).mem_iff.mp (by rw [← q]; exact (hi l).mem_iff.mpr hy)
  have nA : ((ringsN s).map fun r => f (r.map (ap p))).Nodup := by
    unfold ringsN List.Nodup
    rw [List.map_map, List.pairwise_map]
    refine List.Pairwise.imp_of_mem (fun {a b} ha hb hab q => ?_) (reps_nodup s)
    have ha' := (mem_reps.mp ha).1
    have hb' := (mem_reps.mp hb).1
    have := inj _ _ q (ap p a) (List.mem_map.mpr ⟨a, self_mem_ring s a, rfl⟩)
    obtain ⟨z, hz, ez⟩ := List.mem_map.mp this
    have : z = a := P.ap_inj (e ▸ S.ring_lt hb' hz) (e ▸ ha') ez
    subst this
    exact hab (S.reps_apart ha hb (self_mem_ring s z) hz)
  have nB : ((ringsN (cjN p s)).map f).Nodup := by
    unfold ringsN List.Nodup
    rw [List.map_map, List.pairwise_map]
    refine List.Pairwise.imp_of_mem (fun {a b} ha hb hab q => ?_) (reps_nodup _)
    have := inj _ _ q a (self_mem_ring _ a)
    exact hab (C.reps_apart ha hb (self_mem_ring _ a) this)
  refine (List.perm_ext_iff_of_nodup nA nB).mpr fun v => ?_
  constructor
  · intro hv
    obtain ⟨r, hr, rfl⟩ := List.mem_map.mp hv
    obtain ⟨a, ha, rfl⟩ := List.mem_map.mp hr
    have ha' : a < p.length := e ▸ (mem_reps.mp ha).1
    have hc : ap p a < (cjN p s).length := by rw [cj_len]; exact P.ap_lt ha'
    obtain ⟨m, hm, hmem⟩ := C.rep_of hc
    refine List.mem_map.mpr ⟨ring (cjN p s) m, List.mem_map.mpr ⟨m, hm, rfl⟩, ?_⟩
    rw [← P.ring_cj S e ha']
    exact hf _ _ (C.ring_perm (mem_reps.mp hm).1 hmem).symm
  · intro hv
    obtain ⟨r, hr, rfl⟩ := List.mem_map.mp hv
    obtain ⟨m, hm, rfl⟩ := List.mem_map.mp hr
    have hm' := (mem_reps.mp hm).1
    rw [cj_len] at hm'
    obtain ⟨x, hx, rfl⟩ := P.ap_surj hm'
    obtain ⟨a, ha, hmem⟩ := S.rep_of (e ▸ hx)
    refine List.mem_map.mpr ⟨ring s a, List.mem_map.mpr ⟨a, ha, rfl⟩, ?_⟩
    rw [P.ring_cj S e hx]
    exact hf _ _ ((S.ring_perm (mem_reps.mp ha).1 hmem).symm.map _)
end Tn

/-! k02, pure side: pairs of turns -/
namespace Eng
namespace Pg
open PySem PySem.Spec PyProof.Rows L2 Evl Tn
variable [Tb]
open PySem.W (dataLe)
variable [Tb]
/-- ascending -/
def srN (ls : List Nat) : List Nat := (sortI (ls.map Int.ofNat)).map Int.toNat
theorem srN_int (ls : List Nat) : (sortI (ls.map Int.ofNat)).map D.int = (srN ls).map nD := by
  rw [nD_int]
  unfold srN
  rw [← sortI_nat]
theorem srN_perm (ls : List Nat) : (srN ls).Perm ls := by
  have h : (sortI (ls.map Int.ofNat)).Perm (ls.map Int.ofNat) := sortI_perm _
  have h2 := (h.map Int.toNat)
  rw [List.map_map] at h2
  have e : ls.map (Int.toNat ∘ Int.ofNat) = ls := by
    conv => rhs; rw [← List.map_id ls]
    rfl
  rw [e] at h2
  exact h2
theorem srN_eq {ls ms : List Nat} (h : ls.Perm ms) : srN ls = srN ms := by
  unfold srN
  rw [sorted_uniq ((sortI_perm _).trans ((h.map _).trans (sortI_perm _).symm)) (sortI_sorted _) (sortI_sorted _)]
theorem y_srL (ls : List Nat) : sortedUD (.lst (ls.map nD)) = some (.fr ((srN ls).map nD)) := by
  unfold sortedUD sortedD
  rw [nD_int]
  simp only [intsOf_map, Option.map_some]
  rw [srN_int]
theorem y_srT (ls : List Nat) : sortedUD (tD ls) = some (.fr ((srN ls).map nD)) := by
  unfold sortedUD sortedD sortedTD tD
  rw [nD_int]
  simp only [intsOf_map, Option.map_some]
  rw [srN_int]
/-- rows -/
def lD (l : List Nat) : D := .lst (l.map nD)
def lP (l : List Nat) : PyData := .list ((l.map Int.ofNat).map PyData.int)
def leN (l m : List Nat) : Bool := decide (l.map Int.ofNat ≤ m.map Int.ofNat)
theorem lD_py (l : List Nat) : (lD l).py = some (lP l) := by
  have h := eqs_int.lst.py (l.map Int.ofNat)
  unfold lD lP
  rw [nD_int]
  exact h
theorem lD_pys : ∀ ls : List (List Nat), D.pys (ls.map lD) = some (ls.map lP)
  | [] => rfl
  | l :: ls => by
    rw [List.map_cons, List.map_cons]
    simp only [D.pys, lD_py, lD_pys ls]
theorem alikeI : ∀ l m : List Int, PySem.W.alikeAll (l.map PyData.int) (m.map PyData.int) = true
  | [], m => by cases m <;> rfl
  | a :: l, [] => rfl
  | a :: l, b :: m => by
    rw [List.map_cons, List.map_cons]
    simp only [PySem.W.alikeAll, PySem.W.alike, alikeI l m, Bool.and_self]
theorem srtOk_rows (ls : List (List Nat)) : srtOk (ls.map lP) = true := by
  unfold srtOk
  have h1 : (ls.map lP).all (fun d => (ls.map lP).all fun e => PySem.W.alike d e) = true := by
    rw [List.all_eq_true]
    intro d hd
    rw [List.all_eq_true]
    intro e he
    obtain ⟨l, _, rfl⟩ := List.mem_map.mp hd
    obtain ⟨m, _, rfl⟩ := List.mem_map.mp he
    unfold lP
    simp only [PySem.W.alike, alikeI]
  have h2 : (ls.map lP).all noTup = true := by
    rw [List.all_eq_true]
    intro d hd
    obtain ⟨l, _, rfl⟩ := List.mem_map.mp hd
    rfl
  have h3 : ((ls.map lP).all fun d => decide (d.depth ≤ 60)) = true := by
    rw [List.all_eq_true]
    intro d hd
    obtain ⟨l, _, rfl⟩ := List.mem_map.mp hd
    have := eqs_int.lst.dep (l.map Int.ofNat)
    exact decide_eq_true (Nat.le_trans this (by decide))
  rw [h1, h2, h3]
  simp
theorem le_rows (l m : List Nat) : dataLe false (fun z : D × PyData => z.2) (lD l, lP l) (lD m, lP m) = leN l m := by
  have := PySem.W.dataLe_rows (fun b : List Nat => b.map Int.ofNat)
  have q := congrFun (congrFun this l) m
  exact q
theorem y_rows (ls : List (List Nat)) (h : ls ≠ []) : sortedUD (.lst (ls.map lD)) = some (.fr ((ls.mergeSort leN).map lD)) := by
  have n1 : sortedD (.lst (ls.map lD)) = none := by
    cases ls with
    | nil => exact absurd rfl h
    | cons l ls => rfl
  have n2 : sortedTD (.lst (ls.map lD)) = none := rfl
  unfold sortedUD
  rw [n1, n2]
  simp only [sortedAD, lD_pys, Option.bind_some, srtOk_rows, if_true]
  congr 2
  have z : (ls.map lD).zip (ls.map lP) = ls.map fun l => (lD l, lP l) := by rw [List.zip_map']
  rw [z]
  have m := List.map_mergeSort (r := leN) (s := dataLe false fun z : D × PyData => z.2) (f := fun l => (lD l, lP l)) (l := ls) (fun a _ b _ => (le_rows a b).symm)
  rw [← m, List.map_map]
  rfl
theorem rows_perm {ls ms : List (List Nat)} (h : ls.Perm ms) : ls.mergeSort leN = ms.mergeSort leN := by
  have inj : ∀ a b : List Nat, a.map Int.ofNat = b.map Int.ofNat → a = b := fun a b e => List.map_inj_right (f := Int.ofNat) (fun x y q => Int.ofNat.inj q) |>.mp e
  have tr : ∀ a b c : List Nat, leN a b = true → leN b c = true → leN a c = true := fun a b c h1 h2 => by
    unfold leN at *
    simp only [decide_eq_true_eq] at *
    exact List.le_trans h1 h2
  have to : ∀ a b : List Nat, (leN a b || leN b a) = true := fun a b => by
    unfold leN
    rcases List.le_total (a.map Int.ofNat) (b.map Int.ofNat) with h | h <;> simp [h]
  refine List.Perm.eq_of_pairwise (le := fun a b => leN a b = true) (fun a b _ _ h1 h2 => ?_) (List.pairwise_mergeSort tr to ls) (List.pairwise_mergeSort tr to ms) ((List.mergeSort_perm _ _).trans (h.trans (List.mergeSort_perm _ _).symm))
  unfold leN at h1 h2
  simp only [decide_eq_true_eq] at h1 h2
  exact inj a b (List.le_antisymm h1 h2)
theorem neRows (ls : List (List Nat)) : neD (.lst (ls.map lD)) (.lst (ls.map lD)) = some (.dat (.bl false)) := by
  have := eqs_nat.lst.lst.ne (by decide) ls ls
  rw [decide_eq_true rfl] at this
  exact this
end Pg
end Eng

/-! k02, pure side: pairs of turns, the whole -/
namespace Eng
open PySem PySem.Spec PyProof.Rows L2 Evl
variable [Tb]
/-- a comprehension of one name, whose items are kept -/
theorem lcL_mapR {i : Nat} {se : SE} {g : D → D} {s : S} (hf : freeV s.env [i] = true) (hb : (s.env[i]?).isSome = true) :
    ∀ (ds acc : List D), (∀ d ∈ ds, ∃ w, se ⟨s.env.set i (.val d), s.cup⟩ = .ok w ⟨s.env.set i (.val d), s.cup⟩ ∧ frz w ⟨s.env.set i (.val d), s.cup⟩ = .ok (g d) ⟨s.env.set i (.val d), s.cup⟩) → acc.length + ds.length ≤ line → lcL (sgName i) sYes se [i] ds acc s = .ok (.fr (acc ++ ds.map g)) s
  | [], acc, _, _ => by simp [lcL]
  | d :: ds, acc, h, hl => by
    have e1 : sgName i d (wipeS s [i]) = some ⟨s.env.set i (.val d), s.cup⟩ := by
      show some (setSl ⟨s.env.set i .no, s.cup⟩ i (.val d)) = _
      simp [setSl, List.set_set]
    have e2 : unwipeS s ⟨s.env.set i (.val d), s.cup⟩ [i] = s := by
      unfold unwipeS
      simp only [unwipeE]
      cases z : s.env[i]? with
      | none => rw [z] at hb; cases hb
      | some sl =>
        simp only [List.set_set]
        have hi : i < s.env.length := (List.getElem?_eq_some_iff.mp z).1
        have : s.env.set i sl = s.env := by
          apply List.ext_getElem?
          intro j
          rw [List.getElem?_set]
          split
          · rename_i e; subst e; first | rw [if_pos hi, z] | exact z.symm
          · rfl
        rw [this]
    obtain ⟨w, q1, q2⟩ := h d (.head _)
    unfold lcL
    rw [if_pos hf, e1]
    simp only [sYes, Res.noX, Res.bind, q1, q2]
    rw [if_pos (by rw [List.length_cons] at hl; omega), e2, lcL_mapR hf hb ds (acc ++ [g d]) (fun d' m => h d' (.tail _ m)) (by rw [List.length_append]; simp only [List.length_cons, List.length_nil] at hl ⊢; omega)]
    simp
namespace Pg
open Tn
variable {n f t : List Nat}
def pS (n f t : List Nat) (v3 v4 v5 v6 v7 v8 : Sl) : S := ⟨[.val (tD n), .val (tD f), .val (tD t), v3, v4, v5, v6, v7, v8], (0, 0, 0)⟩
theorem x_eqB (a b : Bool) : eqD (.bl a) (.bl b) = some (.dat (.bl (decide (a = b)))) := eqs_bl.eq (by decide) a b
theorem x_neB (a b : Bool) : neD (.bl a) (.bl b) = some (.dat (.bl (!decide (a = b)))) := eqs_bl.ne (by decide) a b
theorem ev_then (N : IsTurn n) (F : IsTurn f) (e : n.length = f.length) : evN (thenN n f) = decide (evN n = evN f) := by
  have h := N.inv_then F e
  unfold evN
  by_cases a : inv n % 2 = 0 <;> by_cases b : inv f % 2 = 0
  · have q : inv (thenN n f) % 2 = 0 := by omega
    simp [a, b, q]
  · have q : ¬ inv (thenN n f) % 2 = 0 := by omega
    simp [a, b, q]
  · have q : ¬ inv (thenN n f) % 2 = 0 := by omega
    simp [a, b, q]
  · have q : inv (thenN n f) % 2 = 0 := by omega
    simp [a, b, q]
def pL : SS := (sIfS (sB (sOp2 neD (sOp2 ixD (sVar 4) (sOp2 ixD (sVar 0) (sVar 5))) (sOp2 ixD (sVar 0) (sOp2 ixD (sVar 1) (sVar 5))))) (sRet (sC (.bl false))) (sNext))
theorem lots1 (N : IsTurn n) (F : IsTurn f) (e : n.length = f.length) (v3 v4 v6 v7 : Sl) (d5 : D) : sLc (siSeq (sCall f_rings (sCons (sVar 1) (sNil)))) (sgName 8) (sYes) (sOp1 sortedUD (sLc (siSeq (sVar 8)) (sgName 5) (sYes) (sOp2 ixD (sVar 0) (sVar 5)) [5])) [8] (pS n f t v3 v4 (.val d5) v6 v7 .no)
    = .ok (.fr (((ringsN f).map fun r => srN (r.map (ap n))).map lD)) (pS n f t v3 v4 (.val d5) v6 v7 .no) := by
  have one : ∀ r ∈ ringsN f, sOp1 sortedUD (sLc (siSeq (sVar 8)) (sgName 5) (sYes) (sOp2 ixD (sVar 0) (sVar 5)) [5]) (pS n f t v3 v4 (.val d5) v6 v7 (.val (tD r))) = .ok (.fr ((srN (r.map (ap n))).map nD)) (pS n f t v3 v4 (.val d5) v6 v7 (.val (tD r))) := by
    intro r hr
    obtain ⟨x, hx, rfl⟩ := List.mem_map.mp hr
    have hxn := (mem_reps.mp hx).1
    have l24 : (ring f x).length ≤ 24 := by rw [ring_len]; exact Nat.le_trans (F.per_le hxn) F.hi
    have l := lcL_map (i := 5) (se := sOp2 ixD (sVar 0) (sVar 5)) (g := fun d => match d with | .int y => nD (ap n y.toNat) | d => d) (s := pS n f t v3 v4 (.val d5) v6 v7 (.val (tD (ring f x)))) rfl rfl ((ring f x).map nD) [] (fun d hd => by
      obtain ⟨y, hy, rfl⟩ := List.mem_map.mp hd
      have ix := ixT (xs := n) (i := y) (by rw [e]; exact F.ring_lt hxn hy)
      simp [pS, ix]
      rfl) (by simp [line]; omega)
    have q : sLc (siSeq (sVar 8)) (sgName 5) (sYes) (sOp2 ixD (sVar 0) (sVar 5)) [5] (pS n f t v3 v4 (.val d5) v6 v7 (.val (tD (ring f x)))) = .ok (.fr (((ring f x).map (ap n)).map nD)) (pS n f t v3 v4 (.val d5) v6 v7 (.val (tD (ring f x)))) := by
      unfold sLc
      refine Eq.trans (b := lcL (sgName 5) sYes (sOp2 ixD (sVar 0) (sVar 5)) [5] ((ring f x).map nD) [] (pS n f t v3 v4 (.val d5) v6 v7 (.val (tD (ring f x))))) (by simp [pS]) (l.trans ?_)
      rw [List.nil_append, List.map_map, List.map_map]
      rfl
    rw [y_op1, q]
    simp only [x_bind, x_peekF, y_srL]
  have l := lcL_mapR (i := 8) (se := sOp1 sortedUD (sLc (siSeq (sVar 8)) (sgName 5) (sYes) (sOp2 ixD (sVar 0) (sVar 5)) [5])) (g := fun d => match d with | .tup ds => (match intsOf ds with | some ns => lD (srN ((ns.map Int.toNat).map (ap n))) | none => d) | d => d) (s := pS n f t v3 v4 (.val d5) v6 v7 .no) rfl rfl ((ringsN f).map tD) [] (fun d hd => by
    obtain ⟨r, hr, rfl⟩ := List.mem_map.mp hd
    refine ⟨_, one r hr, ?_⟩
    rw [x_frzF]
    unfold tD
    simp only [intsOf_nD, List.map_map]
    have : Int.toNat ∘ Int.ofNat = id := by funext x; rfl
    rw [show (ap n ∘ Int.toNat ∘ Int.ofNat) = ap n by rw [this]; rfl]
    rfl) (by have := rings_count F; simp [line]; omega)
  unfold sLc
  refine Eq.trans (b := lcL (sgName 8) sYes (sOp1 sortedUD (sLc (siSeq (sVar 8)) (sgName 5) (sYes) (sOp2 ixD (sVar 0) (sVar 5)) [5])) [8] ((ringsN f).map tD) [] (pS n f t v3 v4 (.val d5) v6 v7 .no)) ?_ (l.trans ?_)
  · have s0 : siSeq (sCall f_rings (sCons (sVar 1) (sNil))) (pS n f t v3 v4 (.val d5) v6 v7 .no) = .ok ((ringsN f).map tD) (pS n f t v3 v4 (.val d5) v6 v7 .no) := by
      simp [pS, p_rings _ F]
    rw [s0]
    rfl
  · rw [List.nil_append, List.map_map, List.map_map]
    congr 2
    refine List.map_congr_left fun r _ => ?_
    simp only [Function.comp, tD, intsOf_nD, List.map_map]
    have : Int.toNat ∘ Int.ofNat = id := by funext x; rfl
    rw [show (ap n ∘ Int.toNat ∘ Int.ofNat) = ap n by rw [this]; rfl]
theorem lots2 {C : List Nat} (H : IsTurn C) (v3 v5 v6 v7 : Sl) : sLc (siSeq (sCall f_rings (sCons (sVar 4) (sNil)))) (sgName 8) (sYes) (sOp1 sortedUD (sVar 8)) [8] (pS n f t v3 (.val (tD C)) v5 v6 v7 .no)
    = .ok (.fr (((ringsN C).map srN).map lD)) (pS n f t v3 (.val (tD C)) v5 v6 v7 .no) := by
  have l := lcL_mapR (i := 8) (se := sOp1 sortedUD (sVar 8)) (g := fun d => match d with | .tup ds => (match intsOf ds with | some ns => lD (srN (ns.map Int.toNat)) | none => d) | d => d) (s := pS n f t v3 (.val (tD C)) v5 v6 v7 .no) rfl rfl ((ringsN C).map tD) [] (fun d hd => by
    obtain ⟨r, hr, rfl⟩ := List.mem_map.mp hd
    refine ⟨.fr ((srN r).map nD), ?_, ?_⟩
    · have := y_srT r
      simp [pS, this]
    · rw [x_frzF]
      unfold tD
      simp only [intsOf_nD, List.map_map]
      have : Int.toNat ∘ Int.ofNat = id := by funext x; rfl
      rw [this, List.map_id]
      rfl) (by have := rings_count H; simp [line]; omega)
  unfold sLc
  refine Eq.trans (b := lcL (sgName 8) sYes (sOp1 sortedUD (sVar 8)) [8] ((ringsN C).map tD) [] (pS n f t v3 (.val (tD C)) v5 v6 v7 .no)) ?_ (l.trans ?_)
  · have s0 : siSeq (sCall f_rings (sCons (sVar 4) (sNil))) (pS n f t v3 (.val (tD C)) v5 v6 v7 .no) = .ok ((ringsN C).map tD) (pS n f t v3 (.val (tD C)) v5 v6 v7 .no) := by
      simp [pS, p_rings _ H]
    rw [s0]
    simp only [x_bind]
  · rw [List.nil_append, List.map_map, List.map_map]
    congr 2
    refine List.map_congr_left fun r _ => ?_
    simp only [Function.comp, tD, intsOf_nD, List.map_map]
    have : Int.toNat ∘ Int.ofNat = id := by funext x; rfl
    rw [this, List.map_id]
theorem p_pairs_right (c : Cup) (N : IsTurn n) (F : IsTurn f) (T : IsTurn t) (e1 : n.length = f.length) (e2 : t.length = n.length) : f_l_pairs_right_k02 c [tD n, tD f, tD t] = .ok (.bl true) (0, 0, 0) := by
  have hi := N.hi
  have lo := N.lo
  have NF := N.then F e1
  have FN := F.then N e1.symm
  have e3 : t.length = f.length := e2.trans e1
  have FT := F.then T e3.symm
  have C := N.cj F e1
  have lC : (cjN n f).length = n.length := cj_len _ _
  have lNF : (thenN n f).length = n.length := then_len _ _
  have lFT : (thenN f t).length = f.length := then_len _ _
  have TN := T.then N e2
  have CN := T.cj N e2
  have CF := T.cj F e3
  have k1 : kN (lens (thenN f n)) = kN (lens (thenN n f)) := by
    rw [other_way N F e1]
    exact kN_eq (N.lens_cj NF lNF.symm)
  have k2 : kN (lens (cjN n f)) = kN (lens f) := kN_eq (N.lens_cj F e1)
  have as := then_assoc (p := t) N F e1
  have bt := back_then N F e1
  have comm : (thenN (cjN t n) (cjN t f) = thenN (cjN t f) (cjN t n)) ↔ (thenN n f = thenN f n) := by
    rw [cj_then T N F e2 e3, cj_then T F N e3 e2]
    exact cj_inj T NF FN (by rw [lNF]; exact e2) (by rw [then_len]; exact e3)
  have fix := cj_fix N F e1
  have cc := cj_cj N T F e1 e3
  obtain ⟨s', eL, v5, hs⟩ := for_range (i := 5) (sb := pL) (fun k s => ∃ v5, (v5 = Sl.no ∨ ∃ d, v5 = .val d) ∧ (k = 0 ∨ ∃ d, v5 = .val d) ∧ s = pS n f t (.val (tD (thenN n f))) (.val (tD (cjN n f))) v5 .no .no .no) (n := n.length) (s := pS n f t (.val (tD (thenN n f))) (.val (tD (cjN n f))) .no .no .no .no) ⟨.no, .inl rfl, .inl rfl, rfl⟩ (fun k s hk ⟨v5, _, _, hs⟩ => by
    subst hs
    have hkf : k < f.length := e1 ▸ hk
    have i0 := ixT (xs := n) hk
    have i1 := ixT (xs := f) hkf
    have i2 := ixT (xs := cjN n f) (i := ap n k) (by rw [lC]; exact N.ap_lt hk)
    have i3 := ixT (xs := n) (i := ap f k) (by rw [e1]; exact F.ap_lt hkf)
    rw [N.ap_cj F e1 hk] at i2
    refine ⟨pS n f t (.val (tD (thenN n f))) (.val (tD (cjN n f))) (.val (nD k)) .no .no .no, ?_, .val (nD k), .inr ⟨_, rfl⟩, .inr ⟨_, rfl⟩, rfl⟩
    unfold pL
    simp [pS, i0, i1, i2, i3])
  obtain ⟨hv, hv2, rfl⟩ := hs
  obtain ⟨d5, rfl⟩ : ∃ d, v5 = .val d := hv2.elim (fun z => by omega) id
  have io : ∀ b : Bool, ∃ s, reprD (.lst [.bl b, .bl b]) = some (.dat (.str s)) ∧ neD (.str s) (.str s) = some (.dat (.bl false)) := fun b => by
    obtain ⟨s, q1, q2, _⟩ := Rp.repr (ds := [.bl b, .bl b]) (.inl rfl) ((Rps.lst (Rps.cons (Rp.bl b 3) (Rps.cons (Rp.bl b 3) (Rps.nil (w := 0)))))) (by decide) (by decide)
    exact ⟨s, q1, q2⟩
  have ne1 : ((ringsN f).map fun r => srN (r.map (ap n))) ≠ [] := by
    intro z
    have : ringsN f = [] := List.map_eq_nil_iff.mp z
    have q := F.lens_sum
    unfold lens at q
    rw [this] at q
    simp at q
    omega
  have ne2 : ((ringsN (cjN n f)).map srN) ≠ [] := by
    intro z
    have : ringsN (cjN n f) = [] := List.map_eq_nil_iff.mp z
    have q := C.lens_sum
    unfold lens at q
    rw [this] at q
    simp at q
    omega
  have rows := rows_perm (N.lots_perm F e1 (f := srN) (fun l m h => srN_eq h) srN_perm)
  generalize hM : (((ringsN f).map fun r => srN (r.map (ap n))).mergeSort leN) = M at rows
  have y1 := y_rows _ ne1
  have y2 := y_rows _ ne2
  rw [hM] at y1
  rw [← rows] at y2
  generalize hio : decide (thenN n f = thenN f n) = b
  have hio2 : decide (thenN f n = thenN n f) = b := by
    rw [← hio]
    congr 1
    exact propext ⟨fun h => h.symm, fun h => h.symm⟩
  have hio3 : decide (thenN (cjN t n) (cjN t f) = thenN (cjN t f) (cjN t n)) = b := by
    rw [← hio]
    congr 1
    exact propext comm
  have hio4 : decide (cjN n f = f) = b := by
    rw [← hio]
    congr 1
    exact propext fix
  refine defP_ret (s' := pS n f t (.val (tD (thenN n f))) (.val (tD (cjN n f))) (.val d5) (.own (M.map lD)) (.val (.bl b)) .no) rfl (by decide) ?_
  refine seq_ok (s1 := pS n f t (.val (tD (thenN n f))) .no .no .no .no .no) ?_ ?_
  · simp [pS, p_then _ N F e1]
  refine seq_ok (s1 := pS n f t (.val (tD (thenN n f))) .no .no .no .no .no) ?_ ?_
  · simp [pS, p_one_then _ N e1, p_then _ N F e1]
  refine seq_ok (s1 := pS n f t (.val (tD (thenN n f))) .no .no .no .no .no) ?_ ?_
  · have ev := ev_then N F e1
    simp [pS, p_kind_of _ NF, p_kind_of _ FN, p_then _ F N e1.symm, k1, p_is_even _ NF, p_is_even _ N, p_is_even _ F, x_eqB, x_neB, ev]
  refine seq_ok (s1 := pS n f t (.val (tD (thenN n f))) .no .no .no .no .no) ?_ ?_
  · simp [pS, p_then _ NF T (by rw [lNF]; exact e2.symm), p_then _ F T e3.symm, p_then _ N FT (by rw [lFT]; exact e1), as, p_back _ NF, p_back _ F, p_back _ N, p_then _ F.back N.back (by rw [back_len, back_len]; exact e1.symm), bt]
  refine seq_ok (s1 := pS n f t (.val (tD (thenN n f))) (.val (tD (cjN n f))) .no .no .no .no) ?_ ?_
  · simp [pS, p_turned_by _ N F e1]
  refine seq_ok (for_ok (rg1 (n := n.length) (s1 := pS n f t (.val (tD (thenN n f))) (.val (tD (cjN n f))) .no .no .no .no) ?_ (by omega)) eL) ?_
  · simp [pS]
  refine seq_ok (s1 := pS n f t (.val (tD (thenN n f))) (.val (tD (cjN n f))) (.val d5) .no .no .no) ?_ ?_
  · simp [pS, p_turned_by _ N F e1, p_kind_of _ C, p_kind_of _ F, k2]
  refine seq_ok (s1 := pS n f t (.val (tD (thenN n f))) (.val (tD (cjN n f))) (.val d5) (.own (M.map lD)) .no .no) ?_ ?_
  · have q := lots1 (t := t) N F e1 (.val (tD (thenN n f))) (.val (tD (cjN n f))) .no .no d5
    rw [y_asg, y_op1, q]
    simp only [x_bind, x_peekF, y1, x_stowF]
    simp [pS]
  refine seq_ok (s1 := pS n f t (.val (tD (thenN n f))) (.val (tD (cjN n f))) (.val d5) (.own (M.map lD)) .no .no) ?_ ?_
  · have q := lots2 (n := n) (f := f) (t := t) C (.val (tD (thenN n f))) (.val d5) (.own (M.map lD)) .no
    have nr := neRows M
    rw [y_ifs, y_b, y_op2, y_op1, q]
    simp only [x_bind, x_peekF, y2]
    simp [pS, nr]
  refine seq_ok (s1 := pS n f t (.val (tD (thenN n f))) (.val (tD (cjN n f))) (.val d5) (.own (M.map lD)) (.val (.bl b)) .no) ?_ ?_
  · simp [pS, p_one_then _ N e1, p_one_then _ F e1.symm, hio]
  refine seq_ok (s1 := pS n f t (.val (tD (thenN n f))) (.val (tD (cjN n f))) (.val d5) (.own (M.map lD)) (.val (.bl b)) .no) ?_ ?_
  · obtain ⟨s2, q1, q2⟩ := io b
    have mu : mulD (.lst [.bl b]) (.int 2) = some (.fr [.bl b, .bl b]) := rfl
    simp [pS, p_commutes _ N F e1, p_commutes _ F N e1.symm, hio, hio2, q1, mu, q2, line]
  refine seq_ok (s1 := pS n f t (.val (tD (thenN n f))) (.val (tD (cjN n f))) (.val d5) (.own (M.map lD)) (.val (.bl b)) .no) ?_ ?_
  · simp [pS, p_turned_by _ T N e2, p_turned_by _ T F e3, p_commutes _ CN CF (by rw [cj_len, cj_len]), hio3, hio4, x_neB]
  · simp [pS, p_turned_by _ T F e3, p_turned_by _ N CF (by rw [cj_len]; exact e2.symm), p_then _ T N e2, p_turned_by _ TN F (by rw [then_len]; exact e3), cc]
end Pg
end Eng

/-! k02, pure side: the end -/
namespace Eng
namespace Pg
open PySem PySem.Spec PyProof.Rows L2 Evl Tn
variable [Tb]
/-- a comprehension whose items are drawn -/
theorem lcL_draw {i : Nat} {se : SE} {e : List Sl} (P : D → Prop) (K B : Nat) (hf : freeV e [i] = true) (hi : i < e.length) :
    ∀ (ds acc : List D) (b : Nat) (c : Cup), (∀ (b : Nat) (c : Cup) (d0 : D), d0 ∈ ds → b ≤ B → GoodN b c → ∃ d c', se ⟨e.set i (.val d0), c⟩ = .ok (.dat d) ⟨e.set i (.val d0), c'⟩ ∧ P d ∧ GoodN (b + K) c') → GoodN b c → b + K * ds.length ≤ B → acc.length + ds.length ≤ line →
      ∃ rs c', lcL (sgName i) sYes se [i] ds acc ⟨e, c⟩ = .ok (.fr (acc ++ rs)) ⟨e, c'⟩ ∧ rs.length = ds.length ∧ (∀ r ∈ rs, P r) ∧ GoodN (b + K * ds.length) c'
  | [], acc, b, c, _, g, _, _ => ⟨[], c, by simp [lcL], rfl, fun _ h => absurd h (by simp), g⟩
  | d0 :: ds, acc, b, c, h, g, hb, hl => by
    rw [List.length_cons, Nat.mul_succ] at hb
    rw [List.length_cons] at hl
    obtain ⟨d, c1, e1, p1, g1⟩ := h b c d0 (.head _) (by omega) g
    obtain ⟨rs, c2, e2, l2, p2, g2⟩ := lcL_draw P K B hf hi ds (acc ++ [d]) (b + K) c1 (fun b c x hx => h b c x (.tail _ hx)) g1 (by omega) (by rw [List.length_append, List.length_singleton]; omega)
    refine ⟨d :: rs, c2, ?_, by simp [l2], fun r hr => (List.mem_cons.mp hr).elim (fun z => z ▸ p1) (p2 r), by rw [List.length_cons, Nat.mul_succ]; exact g2.le (by omega)⟩
    have a1 : sgName i d0 (wipeS ⟨e, c⟩ [i]) = some ⟨e.set i (.val d0), c⟩ := by
      show some (setSl ⟨e.set i .no, c⟩ i (.val d0)) = _
      simp [setSl, List.set_set]
    have a2 : unwipeS ⟨e, c⟩ ⟨e.set i (.val d0), c1⟩ [i] = ⟨e, c1⟩ := by
      unfold unwipeS
      simp only [unwipeE]
      rw [List.getElem?_eq_getElem hi]
      simp only [List.set_set]
      have : e.set i e[i] = e := by
        apply List.ext_getElem?
        intro j
        rw [List.getElem?_set]
        split
        · rename_i q; subst q; first | exact (List.getElem?_eq_getElem hi).symm | (rw [if_pos hi]; exact (List.getElem?_eq_getElem hi).symm)
        · rfl
      rw [this]
    unfold lcL
    rw [if_pos hf, a1]
    simp only [sYes, Res.noX, Res.bind, e1, x_frz]
    rw [if_pos (by omega), a2, e2]
    simp
theorem all_true : ∀ {rs : List D}, (∀ r ∈ rs, r = .bl true) → allD (.lst rs) = some (.dat (.bl true)) := by
  intro rs h
  have : ∀ {rs : List D}, (∀ r ∈ rs, r = .bl true) → blsOf rs = some (rs.map fun _ => true) := by
    intro rs
    induction rs with
    | nil => intro _; rfl
    | cons r rs ih =>
      intro h
      have := h r (.head _)
      subst this
      simp [blsOf, ih fun q hq => h q (.tail _ hq)]
  show Option.map (fun bs => Vw.dat (D.bl (bs.all id))) (blsOf rs) = _
  rw [this h]
  simp
/-! ### there and back again -/
def onT (a : List Nat) (rs : List (List Nat)) : List Nat := rs.foldl thenN a
def offT (a : List Nat) (rs : List (List Nat)) : List Nat := rs.foldl (fun a r => thenN a (backN r)) a
theorem onT_turn {m : Nat} : ∀ {rs : List (List Nat)} {a : List Nat}, IsTurn a → a.length = m → (∀ r ∈ rs, IsTurn r ∧ r.length = m) → IsTurn (onT a rs) ∧ (onT a rs).length = m
  | [], a, h, l, _ => ⟨h, l⟩
  | r :: rs, a, h, l, hr => by
    have q := hr r (.head _)
    show IsTurn (onT (thenN a r) rs) ∧ (onT (thenN a r) rs).length = m
    exact onT_turn (h.then q.1 (by omega)) (by rw [then_len]; exact l) fun x hx => hr x (.tail _ hx)
theorem offT_turn {m : Nat} : ∀ {rs : List (List Nat)} {a : List Nat}, IsTurn a → a.length = m → (∀ r ∈ rs, IsTurn r ∧ r.length = m) → IsTurn (offT a rs) ∧ (offT a rs).length = m
  | [], a, h, l, _ => ⟨h, l⟩
  | r :: rs, a, h, l, hr => by
    have q := hr r (.head _)
    show IsTurn (offT (thenN a (backN r)) rs) ∧ (offT (thenN a (backN r)) rs).length = m
    exact offT_turn (h.then q.1.back (by rw [back_len]; omega)) (by rw [then_len]; exact l) fun x hx => hr x (.tail _ hx)
theorem on_off {m : Nat} {a : List Nat} (h : IsTurn a) (l : a.length = m) : ∀ (k : Nat) (rs : List (List Nat)), rs.length = k → (∀ r ∈ rs, IsTurn r ∧ r.length = m) → offT (onT a rs) rs.reverse = a
  | 0, rs, hk, _ => by
    have : rs = [] := List.length_eq_zero_iff.mp hk
    subst this
    rfl
  | k + 1, rs, hk, hr => by
    obtain ⟨qs, r, rfl⟩ : ∃ qs r, rs = qs ++ [r] := by
      refine ⟨rs.dropLast, rs.getLast (fun z => by rw [z] at hk; simp at hk), (List.dropLast_concat_getLast _).symm⟩
    rw [List.length_append, List.length_singleton] at hk
    have hq : ∀ x ∈ qs, IsTurn x ∧ x.length = m := fun x hx => hr x (List.mem_append.mpr (.inl hx))
    have r1 := hr r (List.mem_append.mpr (.inr (.head _)))
    have A := onT_turn h l hq
    have step : thenN (thenN (onT a qs) r) (backN r) = onT a qs := by
      rw [then_assoc A.1 r1.1 (by omega)]
      have tb : thenN r (backN r) = still r.length := by
        rw [r1.1.back_eq]
        have := r1.1.then_powI 1 (-1)
        rw [r1.1.powI_one] at this
        rw [this]
        exact r1.1.powI_zero
      rw [tb]
      apply turn_ext (then_len _ _)
      intro x hx
      rw [then_len] at hx
      rw [ap_then hx, ap_still (by rw [r1.2, ← A.2]; exact A.1.ap_lt hx)]
    show offT (onT a (qs ++ [r])) (qs ++ [r]).reverse = a
    rw [List.reverse_append]
    show offT (thenN (onT a (qs ++ [r])) (backN r)) qs.reverse = a
    have e : onT a (qs ++ [r]) = thenN (onT a qs) r := by unfold onT; rw [List.foldl_append]; rfl
    rw [e, step]
    exact on_off h l k qs (by omega) hq
theorem still_per {m x : Nat} (h1 : 1 ≤ m) (h2 : m ≤ 24) (h : x < m) : per (still m) x = 1 := by
  have T := still_turn h1 h2
  have hx : x < (still m).length := by simpa [still] using h
  have : per (still m) x ∣ 1 := (T.it_dvd hx).mp (ap_still h)
  exact Nat.dvd_one.mp this
theorem still_lens {m : Nat} (h1 : 1 ≤ m) (h2 : m ≤ 24) : kN (lens (still m)) = List.replicate m 1 := by
  have T := still_turn h1 h2
  have e : lens (still m) = List.replicate m 1 := by
    rw [lens_eq]
    have r : reps (still m) = List.range m := by
      unfold reps
      rw [show (still m).length = m by simp [still]]
      refine List.filter_eq_self.mpr fun x hx => ?_
      have hx' := List.mem_range.mp hx
      refine isMin_iff.mpr fun y hy => ?_
      obtain ⟨k, hk, rfl⟩ := mem_ring.mp hy
      rw [still_per h1 h2 hx'] at hk
      have : k = 0 := by omega
      subst this
      exact Nat.le_refl _
    rw [r, List.eq_replicate_iff]
    refine ⟨by simp, fun b hb => ?_⟩
    obtain ⟨x, hx, rfl⟩ := List.mem_map.mp hb
    exact still_per h1 h2 (List.mem_range.mp hx)
  have p := kN_perm (lens (still m))
  rw [e] at p ⊢
  exact List.perm_replicate.mp p
theorem still_mov (m : Nat) : movN (still m) = [] := by
  unfold movN
  refine List.filter_eq_nil_iff.mpr fun x hx => ?_
  have hx' := List.mem_range.mp hx
  rw [show (still m).length = m by simp [still]] at hx'
  simp [ap_still hx']
theorem ones {m : Nat} (h1 : 1 ≤ m) (h2 : m ≤ 24) : mulD (.tup [.int 1]) (nD m) = some (.dat (tD (List.replicate m 1))) := by
  have f : ∀ k, (List.replicate k [D.int 1]).flatten = (List.replicate k 1).map nD := by
    intro k
    induction k with
    | zero => rfl
    | succ k ih =>
      rw [List.replicate_succ, List.replicate_succ, List.flatten_cons, List.map_cons, ih]
      rfl
  unfold mulD nD
  simp only
  by_cases e : m = 1
  · subst e
    rfl
  · have e' : ¬ (m : Int) = 1 := by omega
    rw [if_neg e', if_pos ⟨by simp, by omega, by omega, by simp; omega⟩, Int.toNat_natCast, f]
    rfl
def rS2 (m : Nat) (v2 v3 v4 v5 v6 : Sl) (c : Cup) : S := ⟨[.cup, .val (nD m), v2, v3, v4, v5, v6], c⟩
theorem pure_l_right_k02 (c : Cup) (h : Good c) : ∃ c', f_l_right_k02 c [] = .ok (.bl true) c' := by
  obtain ⟨m, c1, e1, m1, m2, g1⟩ := p_l_many (GoodN.of h) (by omega)
  have G0 := g1
  -- the three turns
  obtain ⟨rs, c2, e2, l2, p2, g2⟩ := lcL_draw (i := 6) (se := sCallC 0 f_l_spin (sCons (sVar 1) (sNil))) (e := [.cup, .val (nD m), .no, .no, .no, .no, .no]) (fun d => ∃ xs, d = tD xs ∧ IsTurn xs ∧ xs.length = m) 24 1000 rfl (by simp) (rgD 0 3) [] 1 c1 (fun b c d0 _ hb g => by
    obtain ⟨xs, c', e, T, l, g'⟩ := p_l_spin g (by omega) m1 m2
    refine ⟨tD xs, c', callC_ok rfl (by simp) e, ⟨xs, rfl, T, l⟩, g'⟩) g1 (by decide) (by simp [line, rgD])
  have l3 : rs.length = 3 := by rw [l2]; rfl
  obtain ⟨x1, x2, x3, rfl⟩ : ∃ a b c, rs = [a, b, c] := by
    match rs, l3 with
    | [a, b, c], _ => exact ⟨a, b, c, rfl⟩
  obtain ⟨t1, rfl, T1, n1⟩ := p2 x1 (by simp)
  obtain ⟨t2, rfl, T2, n2⟩ := p2 x2 (by simp)
  obtain ⟨t3, rfl, T3, n3⟩ := p2 x3 (by simp)
  have g2' : GoodN 100 c2 := g2.le (by decide)
  -- each of them
  obtain ⟨qs, c3, e3, l3', p3, g3⟩ := lcL_draw (i := 3) (se := sCallC 0 f_l_single_right_k02 (sCons (sVar 3) (sNil))) (e := [.cup, .val (nD m), .val (.lst [tD t1, tD t2, tD t3]), .no, .no, .no, .no]) (fun d => d = .bl true) 100 10000 rfl (by simp) [tD t1, tD t2, tD t3] [] 100 c2 (fun b c d0 hd hb g => by
    have : ∃ xs, d0 = tD xs ∧ IsTurn xs := by
      simp only [List.mem_cons, List.not_mem_nil, or_false] at hd
      rcases hd with z | z | z
      · exact ⟨t1, z, T1⟩
      · exact ⟨t2, z, T2⟩
      · exact ⟨t3, z, T3⟩
    obtain ⟨xs, rfl, T⟩ := this
    obtain ⟨c', e, g'⟩ := p_single_right g (by omega) T
    exact ⟨_, c', callC_ok rfl (by simp) e, rfl, g'⟩) g2' (by simp) (by simp [line])
  have g3' : GoodN 1000 c3 := g3.le (by simp)
  have al := all_true p3
  -- the pairs
  have pr1 := p_pairs_right (0, 0, 0) T1 T2 T3 (by omega) (by omega)
  have pr2 := p_pairs_right (0, 0, 0) T2 T2.back T3 (by rw [back_len]) (by omega)
  -- the row
  obtain ⟨r, c4, e4, hr, g4⟩ := p_sip g3' (by decide) (top := 9) (by decide) (by decide)
  have e4' : f_l_sip c3 [.int 9] = .ok (nD r) c4 := e4
  obtain ⟨ws, c5, e5, l5, p5, g5⟩ := lcL_draw (i := 6) (se := sCallC 0 f_l_of (sCons (sVar 2) (sNil))) (e := [.cup, .val (nD m), .val (.lst [tD t1, tD t2, tD t3]), .no, .no, .no, .no]) (fun d => d ∈ [tD t1, tD t2, tD t3]) 1 10000 rfl (by simp) (rgD 0 r) [] 1001 c4 (fun b c d0 _ hb g => by
    obtain ⟨x, c', e, hx, g'⟩ := p_of g (by omega) (d := .lst [tD t1, tD t2, tD t3]) (.inl rfl) (by simp) (by simp)
    exact ⟨x, c', callC_ok rfl (by simp) e, hx, g'⟩) g4 (by simp [rgD]; omega) (by simp [line, rgD]; omega)
  obtain ⟨ts, rfl, hts⟩ : ∃ ts : List (List Nat), ws = ts.map tD ∧ ∀ x ∈ ts, IsTurn x ∧ x.length = m := by
    clear e5 l5
    induction ws with
    | nil => exact ⟨[], rfl, fun _ h => absurd h (by simp)⟩
    | cons w ws ih =>
      obtain ⟨ts, e, ht⟩ := ih fun x hx => p5 x (.tail _ hx)
      have := p5 w (.head _)
      simp only [List.mem_cons, List.not_mem_nil, or_false] at this
      have q : ∃ x, w = tD x ∧ IsTurn x ∧ x.length = m := by
        rcases this with z | z | z
        · exact ⟨t1, z, T1, n1⟩
        · exact ⟨t2, z, T2, n2⟩
        · exact ⟨t3, z, T3, n3⟩
      obtain ⟨x, rfl, X, lx⟩ := q
      refine ⟨x :: ts, by rw [e]; rfl, fun y hy => (List.mem_cons.mp hy).elim (fun z => z ▸ ⟨X, lx⟩) (ht y)⟩
  have ST := still_turn m1 m2
  have sl : (still m).length = m := by simp [still]
  -- on
  obtain ⟨s6, e6, v3, hs6⟩ := for_map (f := tD) (i := 3) (sb := sAsg 4 (sCall f_then (sCons (sVar 4) (sCons (sVar 3) (sNil))))) (fun k s => ∃ v3, s = rS2 m (.val (.lst [tD t1, tD t2, tD t3])) v3 (.val (tD (onT (still m) (ts.take k)))) (.val (.lst (ts.map tD))) .no c5) (xs := ts)
    (s := rS2 m (.val (.lst [tD t1, tD t2, tD t3])) .no (.val (tD (still m))) (.val (.lst (ts.map tD))) .no c5) ⟨.no, rfl⟩ (fun k x s hx ⟨v3, hs⟩ => by
      subst hs
      have A := onT_turn (m := m) ST sl (rs := ts.take k) fun y hy => hts y (List.mem_of_mem_take hy)
      have X := hts x (List.mem_of_getElem? hx)
      refine ⟨rS2 m (.val (.lst [tD t1, tD t2, tD t3])) (.val (tD x)) (.val (tD (onT (still m) (ts.take (k + 1))))) (.val (.lst (ts.map tD))) .no c5, ?_, .val (tD x), rfl⟩
      have e : onT (still m) (ts.take (k + 1)) = thenN (onT (still m) (ts.take k)) x := by rw [take_succ' hx]; unfold onT; rw [List.foldl_append]; rfl
      rw [e]
      simp [rS2, p_then _ A.1 X.1 (by omega)])
  subst hs6
  rw [List.take_length] at e6
  have A := onT_turn (m := m) ST sl hts
  -- back
  have htr : ∀ x ∈ ts.reverse, IsTurn x ∧ x.length = m := fun x hx => hts x (List.mem_reverse.mp hx)
  obtain ⟨s7, e7, v3', hs7⟩ := for_map (f := tD) (i := 3) (sb := sAsg 4 (sCall f_then (sCons (sVar 4) (sCons (sCall f_back (sCons (sVar 3) (sNil))) (sNil))))) (fun k s => ∃ v3, s = rS2 m (.val (.lst [tD t1, tD t2, tD t3])) v3 (.val (tD (offT (onT (still m) ts) (ts.reverse.take k)))) (.val (.lst (ts.map tD))) .no c5) (xs := ts.reverse)
    (s := rS2 m (.val (.lst [tD t1, tD t2, tD t3])) v3 (.val (tD (onT (still m) ts))) (.val (.lst (ts.map tD))) .no c5) ⟨v3, rfl⟩ (fun k x s hx ⟨v3, hs⟩ => by
      subst hs
      have A' := offT_turn (m := m) A.1 A.2 (rs := ts.reverse.take k) fun y hy => htr y (List.mem_of_mem_take hy)
      have X := htr x (List.mem_of_getElem? hx)
      refine ⟨rS2 m (.val (.lst [tD t1, tD t2, tD t3])) (.val (tD x)) (.val (tD (offT (onT (still m) ts) (ts.reverse.take (k + 1))))) (.val (.lst (ts.map tD))) .no c5, ?_, .val (tD x), rfl⟩
      have e : offT (onT (still m) ts) (ts.reverse.take (k + 1)) = thenN (offT (onT (still m) ts) (ts.reverse.take k)) (backN x) := by rw [take_succ' hx]; unfold offT; rw [List.foldl_append]; rfl
      rw [e]
      simp [rS2, p_back _ X.1, p_then _ A'.1 X.1.back (by rw [back_len]; omega)])
  subst hs7
  rw [List.take_length, on_off ST sl _ ts rfl hts] at e7
  refine ⟨c5, ?_⟩
  refine defC_ret (s' := rS2 m (.val (.lst [tD t1, tD t2, tD t3])) v3' (.val (tD (still m))) (.val (.lst (ts.map tD))) .no c5) rfl (by decide) ?_
  refine seq_ok (s1 := rS2 m .no .no .no .no .no c1) ?_ ?_
  · simp [rS2, e1]
  refine seq_ok (s1 := rS2 m (.own [tD t1, tD t2, tD t3]) .no .no .no .no c2) ?_ ?_
  · have q : sLc (siRange1 (sCons (sC (.int 3)) (sNil))) (sgName 6) (sYes) (sCallC 0 f_l_spin (sCons (sVar 1) (sNil))) [6] (rS2 m .no .no .no .no .no c1) = .ok (.fr [tD t1, tD t2, tD t3]) (rS2 m .no .no .no .no .no c2) := by
      unfold sLc
      rw [rg1 (n := 3) (s1 := rS2 m .no .no .no .no .no c1) (by simp [nD]) (by decide), x_bind]
      exact e2
    rw [y_asg, q]
    simp [rS2]
  refine seq_ok (s1 := rS2 m (.val (.lst [tD t1, tD t2, tD t3])) .no .no .no .no c3) ?_ ?_
  · have q : sLc (siSeq (sVar 2)) (sgName 3) (sYes) (sCallC 0 f_l_single_right_k02 (sCons (sVar 3) (sNil))) [3] (rS2 m (.own [tD t1, tD t2, tD t3]) .no .no .no .no c2) = .ok (.fr qs) (rS2 m (.val (.lst [tD t1, tD t2, tD t3])) .no .no .no .no c3) := by
      unfold sLc
      have s0 : siSeq (sVar 2) (rS2 m (.own [tD t1, tD t2, tD t3]) .no .no .no .no c2) = .ok [tD t1, tD t2, tD t3] (rS2 m (.val (.lst [tD t1, tD t2, tD t3])) .no .no .no .no c2) := by simp [rS2]
      rw [s0, x_bind]
      exact e3
    rw [y_ifs, y_not, y_b, y_op1, q]
    simp only [x_bind, x_peekF, al, Bool.not_true, x_next]
  refine seq_ok (s1 := rS2 m (.val (.lst [tD t1, tD t2, tD t3])) .no .no .no .no c3) ?_ ?_
  · have i0 : ixD (.lst [tD t1, tD t2, tD t3]) (.int 0) = some (.dat (tD t1)) := rfl
    have i1 : ixD (.lst [tD t1, tD t2, tD t3]) (.int 1) = some (.dat (tD t2)) := rfl
    have i2 : ixD (.lst [tD t1, tD t2, tD t3]) (.int 2) = some (.dat (tD t3)) := rfl
    simp [rS2, i0, i1, i2, pr1, p_back _ T2, pr2]
  refine seq_ok (s1 := rS2 m (.val (.lst [tD t1, tD t2, tD t3])) .no (.val (tD (still m))) (.own (ts.map tD)) .no c5) ?_ ?_
  · have q : sLc (siRange1 (sCons (sCallC 0 f_l_sip (sCons (sC (.int 9)) (sNil))) (sNil))) (sgName 6) (sYes) (sCallC 0 f_l_of (sCons (sVar 2) (sNil))) [6] (rS2 m (.val (.lst [tD t1, tD t2, tD t3])) .no .no .no .no c3) = .ok (.fr (ts.map tD)) (rS2 m (.val (.lst [tD t1, tD t2, tD t3])) .no .no .no .no c5) := by
      have hc : sCallC 0 f_l_sip (sCons (sC (.int 9)) (sNil)) (rS2 m (.val (.lst [tD t1, tD t2, tD t3])) .no .no .no .no c3) = .ok (.dat (nD r)) (rS2 m (.val (.lst [tD t1, tD t2, tD t3])) .no .no .no .no c4) := callC_ok rfl (by simp) e4'
      unfold sLc
      rw [rg1 (n := r) (s1 := rS2 m (.val (.lst [tD t1, tD t2, tD t3])) .no .no .no .no c4) (by rw [y_cons, hc]; simp only [x_bind, x_frz, x_nil]) (by omega), x_bind]
      exact e5
    have s0 : sCall f_l_still (sCons (sVar 1) (sNil)) (rS2 m (.val (.lst [tD t1, tD t2, tD t3])) .no .no .no .no c3) = .ok (.dat (tD (still m))) (rS2 m (.val (.lst [tD t1, tD t2, tD t3])) .no .no .no .no c3) := by
      simp [rS2, p_l_still _ (show m ≤ 1000 by omega)]
    rw [y_par, s0]
    simp only [x_bind, q, y_slD, y_slF]
    simp [rS2]
  refine seq_ok (for_ok (ds := ts.map tD) (s1 := rS2 m (.val (.lst [tD t1, tD t2, tD t3])) .no (.val (tD (still m))) (.val (.lst (ts.map tD))) .no c5) ?_ e6) ?_
  · simp [rS2]
  refine seq_ok (for_ok (ds := ts.reverse.map tD) (s1 := rS2 m (.val (.lst [tD t1, tD t2, tD t3])) v3 (.val (tD (onT (still m) ts))) (.val (.lst (ts.map tD))) .no c5) ?_ e7) ?_
  · have rv : revD (.lst (ts.map tD)) = some (.fr (ts.reverse.map tD)) := by
      unfold revD
      rw [List.map_reverse]
    simp [rS2]
    rw [rv]
    simp
  · have t0 : eqD (tD []) (.tup []) = some (.dat (.bl true)) := x_eqT [] []
    simp [rS2, p_l_still _ (show m ≤ 1000 by omega), p_moved _ ST, still_mov, t0, p_kind_of _ ST, still_lens m1 m2, ones m1 m2, line]
end Pg
end Eng

set_option maxHeartbeats 0
namespace Eng
namespace W_k02
open PySem PySem.Spec PyProof.Rows L2 Evl
def top (i : Nat) : Stmt := PySem.Challenge.pw_seatbuttons_k02_whole_turns_and_their_ri.main.body.getD i (.Pass ⟨0, 0, 0, 0⟩)
structure Txt (K : PySem.W.Frag) (mg : Str → Option Value) : Prop where
  b_abs : mg "abs" = none
  b_all : mg "all" = none
  b_bool : mg "bool" = none
  b_divmod : mg "divmod" = none
  b_enumerate : mg "enumerate" = none
  b_int : mg "int" = none
  b_isinstance : mg "isinstance" = none
  b_len : mg "len" = none
  b_list : mg "list" = none
  b_max : mg "max" = none
  b_min : mg "min" = none
  b_range : mg "range" = none
  b_repr : mg "repr" = none
  b_set : mg "set" = none
  b_sorted : mg "sorted" = none
  b_sum : mg "sum" = none
  b_tuple : mg "tuple" = none
  g_MOST_PLACES : ∃ t, mg "MOST_PLACES" = some (.int 24 t)
  i_factorial : mg "factorial" = some (.builtin "math.factorial")
variable {P : Program} {w : World} {K : PySem.W.Frag} {mg : Str → Option Value} {base : Heap} [Tb]
abbrev s_l_sip : Stmt := top 42
theorem sc_l_sip : FnScope ["_law_cup_here", "_law_top", "_law_old", "_law_digit"] ["_law_cup_here", "_law_top"] (defScope s_l_sip) := ⟨rfl, rfl, rfl, by decide +kernel, rfl, by decide +kernel, by decide +kernel⟩
theorem ok_l_sip (T : Txt K mg) (R : Raw K mg "_law_sip" s_l_sip ["_law_cup_here", "_law_top"]) : Df P w K mg base "_law_sip" 1 ["_law_cup_here", "_law_top"] (spC K f_l_sip) :=
  dfC (ss := ss_l_sip) R sc_l_sip (by decide) fun f c cdv A outer s H E hr hg => 
    (js_cons (js_cupSet (ps_asg (je_add (je_cupAt 0) je_int) (pg_sub (pv 0) pe_int set_list)))
    (js_cons (js_set (i := 2) (je_intc T.b_int (je_cupAt 0)) sc_l_sip.nd)
    (js_cons (js_cupSet (ps_asg (je_mod (je_intc T.b_int (je_add (je_add (je_mul (je_var 2) (je_add (je_mod (je_intc T.b_int (je_var 2)) je_int) je_int)) (je_mul je_int (je_cupAt 0))) je_int)) je_int) (pg_sub (pv 0) pe_int set_list)))
    (js_cons (js_if (jt_cmp op_gtB ro_gt (je_cupAt 0) je_int (nomark _)) (js_cons (js_cupTwo (ps_asg (je_divmod T.b_divmod (je_cupAt 0) (je_var 1)) (pg_tup rfl (pgs_cons (pg_sub (pv 0) pe_int set_list) (pgs_cons (pg_name (i := 3) sc_l_sip.nd rfl (Or.inl rfl)) pgs_nil rfl) rfl) rfl rfl)))
    (js_one (js_ret (je_var 3)))) js_nil)
    (js_one (js_ret (je_mod (je_intc T.b_int (je_fdiv (je_cupAt 0) je_int)) (je_var 1))))))))
abbrev s_l_of : Stmt := top 43
theorem sc_l_of : FnScope ["_law_cup_here", "_law_things"] ["_law_cup_here", "_law_things"] (defScope s_l_of) := ⟨rfl, rfl, rfl, by decide +kernel, rfl, by decide +kernel, by decide +kernel⟩
theorem ok_l_of (T : Txt K mg) (R : Raw K mg "_law_of" s_l_of ["_law_cup_here", "_law_things"]) (d_l_sip : Df P w K mg base "_law_sip" 1 ["_law_cup_here", "_law_top"] (spC K f_l_sip)) : Df P w K mg base "_law_of" 2 ["_law_cup_here", "_law_things"] (spC K f_l_of) :=
  dfC (ss := ss_l_of) R sc_l_of (by decide) fun f c cdv A outer s H E hr hg => 
    (js_one (js_ret (je_at (je_var 1) (je_callCD 0 d_l_sip hr hg (ja_cons (je_len T.b_len (je_var 1)) ja_nil)))))
abbrev s_l_many : Stmt := top 45
theorem sc_l_many : FnScope ["_law_cup_here"] ["_law_cup_here"] (defScope s_l_many) := ⟨rfl, rfl, rfl, by decide +kernel, rfl, by decide +kernel, by decide +kernel⟩
theorem ok_l_many (T : Txt K mg) (R : Raw K mg "_law_many" s_l_many ["_law_cup_here"]) (d_l_of : Df P w K mg base "_law_of" 2 ["_law_cup_here", "_law_things"] (spC K f_l_of)) : Df P w K mg base "_law_many" 3 ["_law_cup_here"] (spC K Pg.f_l_many) :=
  dfC (ss := Pg.ss_l_many) R sc_l_many (by decide) fun f c cdv A outer s H E hr hg => 
    (js_one (js_ret (je_callCD 0 d_l_of hr hg (ja_cons (je_lst (ja_cons je_int (ja_cons je_int (ja_cons je_int (ja_cons je_int (ja_cons je_int (ja_cons je_int (ja_cons je_int (ja_cons je_int (ja_cons je_int (ja_cons je_int (ja_cons je_int ja_nil)))))))))))) ja_nil))))
abbrev s_l_spin : Stmt := top 44
theorem sc_l_spin : FnScope ["_law_cup_here", "_law_many_here", "_law_lap", "_law_left", "_law_found"] ["_law_cup_here", "_law_many_here"] (defScope s_l_spin) := ⟨rfl, rfl, rfl, by decide +kernel, rfl, by decide +kernel, by decide +kernel⟩
theorem ok_l_spin (T : Txt K mg) (R : Raw K mg "_law_spin" s_l_spin ["_law_cup_here", "_law_many_here"]) (d_l_sip : Df P w K mg base "_law_sip" 1 ["_law_cup_here", "_law_top"] (spC K f_l_sip)) : Df P w K mg base "_law_spin" 2 ["_law_cup_here", "_law_many_here"] (spC K Pg.f_l_spin) :=
  dfC (ss := Pg.ss_l_spin) R sc_l_spin (by decide) fun f c cdv A outer s H E hr hg => 
    (js_cons (js_par (ps_par rfl sc_l_spin.nd rfl rfl (by decide) rfl rfl (pa_cons (je_listRg1 T.b_list T.b_range (je_var 1)) (pa_cons (je_lst ja_nil) pa_nil)) rfl))
    (js_cons (js_for PassesOwn.never (ji_range1 T.b_range (ja_cons (je_var 1) ja_nil)) (jg_name (i := 2) sc_l_spin.nd) (js_one (js_expr (je_mut (i := 4) rm_app (pe_bm PySem.F.plainAttrs_list PySem.F.slot_list_append PySem.F.type_list_append mt_append (pv 4) (ja_cons (je_mut (i := 3) rm_popAt (pe_bm PySem.F.plainAttrs_list PySem.F.slot_list_pop PySem.F.type_list_pop mt_popAt (pv 3) (ja_cons (je_callCD 0 d_l_sip hr hg (ja_cons (je_len T.b_len (je_var 3)) ja_nil)) ja_nil))) ja_nil))))))
    (js_one (js_ret (je_tuple T.b_tuple (je_var 4))))))
abbrev s_l_still : Stmt := top 49
theorem sc_l_still : FnScope ["_law_many_here"] ["_law_many_here"] (defScope s_l_still) := ⟨rfl, rfl, rfl, by decide +kernel, rfl, by decide +kernel, by decide +kernel⟩
theorem ok_l_still (T : Txt K mg) (R : Raw K mg "_law_still" s_l_still ["_law_many_here"]) : Df P w K mg base "_law_still" 1 ["_law_many_here"] (spP K Pg.f_l_still) :=
  dfP (ss := Pg.ss_l_still) R sc_l_still fun f cdv A outer s H E hr hg => 
    (js_one (js_ret (je_tuple T.b_tuple (je_listRg1 T.b_list T.b_range (je_var 0)))))
abbrev s_is_integer : Stmt := top 10
theorem sc_is_integer : FnScope ["given", "least", "most"] ["given", "least", "most"] (defScope s_is_integer) := ⟨rfl, rfl, rfl, by decide +kernel, rfl, by decide +kernel, by decide +kernel⟩
theorem ok_is_integer (T : Txt K mg) (R : Raw K mg "is_integer" s_is_integer ["given", "least", "most"]) : Df P w K mg base "is_integer" 1 ["given", "least", "most"] (spP K Pg.f_is_integer) :=
  dfP (ss := Pg.ss_is_integer) R sc_is_integer fun f cdv A outer s H E hr hg => 
    (js_one (js_ret (je_and (je_isi T.b_isinstance T.b_int (by decide +kernel) (je_var 0)) (je_and (je_not (je_isi T.b_isinstance T.b_bool (by decide +kernel) (je_var 0))) (je_one (je_chain op_le ro_le op_le ro_le (je_var 1) (je_var 0) (je_var 2)))))))
abbrev s_are_unlike_places : Stmt := top 11
theorem sc_are_unlike_places : FnScope ["places", "size", "seen", "place"] ["places", "size"] (defScope s_are_unlike_places) := ⟨rfl, rfl, rfl, by decide +kernel, rfl, by decide +kernel, by decide +kernel⟩
theorem ok_are_unlike_places (T : Txt K mg) (R : Raw K mg "are_unlike_places" s_are_unlike_places ["places", "size"]) (d_is_integer : Df P w K mg base "is_integer" 1 ["given", "least", "most"] (spP K Pg.f_is_integer)) : Df P w K mg base "are_unlike_places" 2 ["places", "size"] (spP K Pg.f_are_unlike_places) :=
  dfP (ss := Pg.ss_are_unlike_places) R sc_are_unlike_places fun f cdv A outer s H E hr hg => 
    (js_unl (iS := 2) (iP := 3) PassesOwn.never T.b_set (by decide) (ji_seq (je_var 0)) (jt_val (je_callD d_is_integer hr hg (ja_cons (je_var 3) (ja_cons je_int (ja_cons (je_sub (je_var 1) je_int) ja_nil))))) sc_are_unlike_places.nd)
abbrev s_is_turn : Stmt := top 12
theorem sc_is_turn : FnScope ["given"] ["given"] (defScope s_is_turn) := ⟨rfl, rfl, rfl, by decide +kernel, rfl, by decide +kernel, by decide +kernel⟩
theorem ok_is_turn (T : Txt K mg) (R : Raw K mg "is_turn" s_is_turn ["given"]) (d_are_unlike_places : Df P w K mg base "are_unlike_places" 2 ["places", "size"] (spP K Pg.f_are_unlike_places)) : Df P w K mg base "is_turn" 3 ["given"] (spP K Pg.f_is_turn) :=
  dfP (ss := Pg.ss_is_turn) R sc_is_turn fun f cdv A outer s H E hr hg => 
    (js_cons (js_if (jt_w (jw_or (jt_not (jt_val (je_isi T.b_isinstance T.b_tuple (by decide +kernel) (je_var 0)))) (jw_or1 (jt_not (jt_chain op_le ro_le op_le ro_le je_int (je_len T.b_len (je_var 0)) (je_glob T.g_MOST_PLACES.choose_spec)))))) (js_one (js_ret je_bl)) js_nil)
    (js_one (js_ret (je_callD d_are_unlike_places hr hg (ja_cons (je_var 0) (ja_cons (je_len T.b_len (je_var 0)) ja_nil))))))
abbrev s_check_turn : Stmt := top 16
theorem sc_check_turn : FnScope ["given"] ["given"] (defScope s_check_turn) := ⟨rfl, rfl, rfl, by decide +kernel, rfl, by decide +kernel, by decide +kernel⟩
theorem ok_check_turn (T : Txt K mg) (R : Raw K mg "check_turn" s_check_turn ["given"]) (d_is_turn : Df P w K mg base "is_turn" 3 ["given"] (spP K Pg.f_is_turn)) : Df P w K mg base "check_turn" 4 ["given"] (spP K Pg.f_check_turn) :=
  dfP (ss := Pg.ss_check_turn) R sc_check_turn fun f cdv A outer s H E hr hg => 
    (js_one (js_if (jt_not (jt_val (je_callD d_is_turn hr hg (ja_cons (je_var 0) ja_nil)))) (js_one js_never) js_nil))
abbrev s_check_two_turns : Stmt := top 17
theorem sc_check_two_turns : FnScope ["one", "other"] ["one", "other"] (defScope s_check_two_turns) := ⟨rfl, rfl, rfl, by decide +kernel, rfl, by decide +kernel, by decide +kernel⟩
theorem ok_check_two_turns (T : Txt K mg) (R : Raw K mg "check_two_turns" s_check_two_turns ["one", "other"]) (d_check_turn : Df P w K mg base "check_turn" 4 ["given"] (spP K Pg.f_check_turn)) : Df P w K mg base "check_two_turns" 5 ["one", "other"] (spP K Pg.f_check_two_turns) :=
  dfP (ss := Pg.ss_check_two_turns) R sc_check_two_turns fun f cdv A outer s H E hr hg => 
    (js_cons (js_expr (je_callD d_check_turn hr hg (ja_cons (je_var 0) ja_nil)))
    (js_cons (js_expr (je_callD d_check_turn hr hg (ja_cons (je_var 1) ja_nil)))
    (js_one (js_if (jt_cmp (op_neD hr.units) ro_ne (je_len T.b_len (je_var 0)) (je_len T.b_len (je_var 1)) (nomark _)) (js_one js_never) js_nil))))
abbrev s_one_then : Stmt := top 20
theorem sc_one_then : FnScope ["one", "other", "place"] ["one", "other"] (defScope s_one_then) := ⟨rfl, rfl, rfl, by decide +kernel, rfl, by decide +kernel, by decide +kernel⟩
theorem ok_one_then (T : Txt K mg) (R : Raw K mg "one_then" s_one_then ["one", "other"]) : Df P w K mg base "one_then" 1 ["one", "other"] (spP K Pg.f_one_then) :=
  dfP (ss := Pg.ss_one_then) R sc_one_then fun f cdv A outer s H E hr hg => 
    (js_one (js_ret (je_tuple T.b_tuple (je_lc sc_one_then.nd (ji_seq (je_var 0)) (own := [("place", 2)]) (show BlkOk ["one", "other", "place"] (defScope s_one_then) _ [("place", 2)] from ⟨rfl, by decide +kernel, by decide +kernel, by decide +kernel, by decide +kernel⟩) (fun _ _ _ _ _ => pg_name (i := 2) sc_one_then.nd rfl (by first | exact Or.inl rfl | exact Or.inr rfl) (by first | exact .inl rfl | exact .inr rfl)) (gok_name (vs := [2]) (i := 2) (by decide) _) (fun _ _ _ _ _ => jts_nil) (fun _ _ _ _ _ => (je_at (je_var 1) (je_var 2)))))))
abbrev s_then : Stmt := top 32
theorem sc_then : FnScope ["one", "other"] ["one", "other"] (defScope s_then) := ⟨rfl, rfl, rfl, by decide +kernel, rfl, by decide +kernel, by decide +kernel⟩
theorem ok_then (T : Txt K mg) (R : Raw K mg "then" s_then ["one", "other"]) (d_check_two_turns : Df P w K mg base "check_two_turns" 5 ["one", "other"] (spP K Pg.f_check_two_turns)) (d_one_then : Df P w K mg base "one_then" 1 ["one", "other"] (spP K Pg.f_one_then)) : Df P w K mg base "then" 6 ["one", "other"] (spP K Pg.f_then) :=
  dfP (ss := Pg.ss_then) R sc_then fun f cdv A outer s H E hr hg => 
    (js_cons (js_expr (je_callD d_check_two_turns hr hg (ja_cons (je_var 0) (ja_cons (je_var 1) ja_nil))))
    (js_one (js_ret (je_callD d_one_then hr hg (ja_cons (je_var 0) (ja_cons (je_var 1) ja_nil))))))
abbrev s_led_back : Stmt := top 21
theorem sc_led_back : FnScope ["turn", "places", "place", "goal"] ["turn"] (defScope s_led_back) := ⟨rfl, rfl, rfl, by decide +kernel, rfl, by decide +kernel, by decide +kernel⟩
theorem ok_led_back (T : Txt K mg) (R : Raw K mg "led_back" s_led_back ["turn"]) : Df P w K mg base "led_back" 1 ["turn"] (spP K Pg.f_led_back) :=
  dfP (ss := Pg.ss_led_back) R sc_led_back fun f cdv A outer s H E hr hg => 
    (js_cons (js_set (i := 1) (je_mul (je_lst (ja_cons je_int ja_nil)) (je_len T.b_len (je_var 0))) sc_led_back.nd)
    (js_cons (js_for PassesOwn.never (ji_enum T.b_enumerate (je_var 0)) (jg_two (i := 2) (j := 3) (pg_name (i := 2) sc_led_back.nd rfl (by first | exact Or.inl rfl | exact Or.inr rfl)) (pg_name (i := 3) sc_led_back.nd rfl (by first | exact Or.inl rfl | exact Or.inr rfl))) (js_one (js_setIx (ps_asg (je_var 2) (pg_sub (pv 1) (je_var 3) set_list)))))
    (js_one (js_ret (je_tuple T.b_tuple (je_var 1))))))
abbrev s_renamed_by : Stmt := top 22
theorem sc_renamed_by : FnScope ["turn", "other"] ["turn", "other"] (defScope s_renamed_by) := ⟨rfl, rfl, rfl, by decide +kernel, rfl, by decide +kernel, by decide +kernel⟩
theorem ok_renamed_by (T : Txt K mg) (R : Raw K mg "renamed_by" s_renamed_by ["turn", "other"]) (d_one_then : Df P w K mg base "one_then" 1 ["one", "other"] (spP K Pg.f_one_then)) (d_led_back : Df P w K mg base "led_back" 1 ["turn"] (spP K Pg.f_led_back)) : Df P w K mg base "renamed_by" 2 ["turn", "other"] (spP K Pg.f_renamed_by) :=
  dfP (ss := Pg.ss_renamed_by) R sc_renamed_by fun f cdv A outer s H E hr hg => 
    (js_one (js_ret (je_callD d_one_then hr hg (ja_cons (je_callD d_one_then hr hg (ja_cons (je_callD d_led_back hr hg (ja_cons (je_var 0) ja_nil)) (ja_cons (je_var 1) ja_nil))) (ja_cons (je_var 0) ja_nil)))))
abbrev s_turned_by : Stmt := top 36
theorem sc_turned_by : FnScope ["turn", "other"] ["turn", "other"] (defScope s_turned_by) := ⟨rfl, rfl, rfl, by decide +kernel, rfl, by decide +kernel, by decide +kernel⟩
theorem ok_turned_by (T : Txt K mg) (R : Raw K mg "turned_by" s_turned_by ["turn", "other"]) (d_check_two_turns : Df P w K mg base "check_two_turns" 5 ["one", "other"] (spP K Pg.f_check_two_turns)) (d_renamed_by : Df P w K mg base "renamed_by" 2 ["turn", "other"] (spP K Pg.f_renamed_by)) : Df P w K mg base "turned_by" 6 ["turn", "other"] (spP K Pg.f_turned_by) :=
  dfP (ss := Pg.ss_turned_by) R sc_turned_by fun f cdv A outer s H E hr hg => 
    (js_cons (js_expr (je_callD d_check_two_turns hr hg (ja_cons (je_var 0) (ja_cons (je_var 1) ja_nil))))
    (js_one (js_ret (je_callD d_renamed_by hr hg (ja_cons (je_var 0) (ja_cons (je_var 1) ja_nil))))))
abbrev s_l_behind : Stmt := top 48
theorem sc_l_behind : FnScope ["_law_near", "_law_far", "_law_at"] ["_law_near", "_law_far"] (defScope s_l_behind) := ⟨rfl, rfl, rfl, by decide +kernel, rfl, by decide +kernel, by decide +kernel⟩
theorem ok_l_behind (T : Txt K mg) (R : Raw K mg "_law_behind" s_l_behind ["_law_near", "_law_far"]) : Df P w K mg base "_law_behind" 1 ["_law_near", "_law_far"] (spP K Pg.f_one_then) :=
  dfP (ss := Pg.ss_one_then) R sc_l_behind fun f cdv A outer s H E hr hg => 
    (js_one (js_ret (je_tuple T.b_tuple (je_lc sc_l_behind.nd (ji_seq (je_var 0)) (own := [("_law_at", 2)]) (show BlkOk ["_law_near", "_law_far", "_law_at"] (defScope s_l_behind) _ [("_law_at", 2)] from ⟨rfl, by decide +kernel, by decide +kernel, by decide +kernel, by decide +kernel⟩) (fun _ _ _ _ _ => pg_name (i := 2) sc_l_behind.nd rfl (by first | exact Or.inl rfl | exact Or.inr rfl) (by first | exact .inl rfl | exact .inr rfl)) (gok_name (vs := [2]) (i := 2) (by decide) _) (fun _ _ _ _ _ => jts_nil) (fun _ _ _ _ _ => (je_at (je_var 1) (je_var 2)))))))
abbrev s_rings_in : Stmt := top 23
theorem sc_rings_in : FnScope ["turn", "met", "found", "start", "ring", "place"] ["turn"] (defScope s_rings_in) := ⟨rfl, rfl, rfl, by decide +kernel, rfl, by decide +kernel, by decide +kernel⟩
theorem ok_rings_in (T : Txt K mg) (R : Raw K mg "rings_in" s_rings_in ["turn"]) : Df P w K mg base "rings_in" 1 ["turn"] (spP K Pg.f_rings_in) :=
  dfP (ss := Pg.ss_rings_in) R sc_rings_in fun f cdv A outer s H E hr hg => 
    (js_cons (js_set (i := 1) (je_mul (je_lst (ja_cons je_bl ja_nil)) (je_len T.b_len (je_var 0))) sc_rings_in.nd)
    (js_cons (js_set (i := 2) (je_lst ja_nil) sc_rings_in.nd)
    (js_cons (js_for PassesOwn.never (ji_range1 T.b_range (ja_cons (je_len T.b_len (je_var 0)) ja_nil)) (jg_name (i := 3) sc_rings_in.nd) (js_cons (js_set (i := 4) (je_lst ja_nil) sc_rings_in.nd)
    (js_cons (js_set (i := 5) (je_var 3) sc_rings_in.nd)
    (js_cons (js_while 100000 PassesOwn.never (jt_not (jt_val (je_at (je_var 1) (je_var 5)))) (js_cons (js_setIx (ps_asg je_bl (pg_sub (pv 1) (je_var 5) set_list)))
    (js_cons (js_expr (je_mut (i := 4) rm_app (pe_bm PySem.F.plainAttrs_list PySem.F.slot_list_append PySem.F.type_list_append mt_append (pv 4) (ja_cons (je_var 5) ja_nil))))
    (js_one (js_set (i := 5) (je_at (je_var 0) (je_var 5)) sc_rings_in.nd)))))
    (js_one (js_if (jt_cmp op_gtB ro_gt (je_len T.b_len (je_var 4)) je_int (nomark _)) (js_one (js_expr (je_mut (i := 2) rm_app (pe_bm PySem.F.plainAttrs_list PySem.F.slot_list_append PySem.F.type_list_append mt_append (pv 2) (ja_cons (je_tuple T.b_tuple (je_var 4)) ja_nil))))) js_nil))))))
    (js_one (js_ret (je_tuple T.b_tuple (je_var 2)))))))
abbrev s_kind_in : Stmt := top 26
theorem sc_kind_in : FnScope ["turn", "ring"] ["turn"] (defScope s_kind_in) := ⟨rfl, rfl, rfl, by decide +kernel, rfl, by decide +kernel, by decide +kernel⟩
theorem ok_kind_in (T : Txt K mg) (R : Raw K mg "kind_in" s_kind_in ["turn"]) (d_rings_in : Df P w K mg base "rings_in" 1 ["turn"] (spP K Pg.f_rings_in)) : Df P w K mg base "kind_in" 2 ["turn"] (spP K Pg.f_kind_in) :=
  dfP (ss := Pg.ss_kind_in) R sc_kind_in fun f cdv A outer s H E hr hg => 
    (js_one (js_ret (je_tuple T.b_tuple (je_sortedR T.b_sorted (je_lc sc_kind_in.nd (ji_seq (je_callD d_rings_in hr hg (ja_cons (je_var 0) ja_nil))) (own := [("ring", 1)]) (show BlkOk ["turn", "ring"] (defScope s_kind_in) _ [("ring", 1)] from ⟨rfl, by decide +kernel, by decide +kernel, by decide +kernel, by decide +kernel⟩) (fun _ _ _ _ _ => pg_name (i := 1) sc_kind_in.nd rfl (by first | exact Or.inl rfl | exact Or.inr rfl) (by first | exact .inl rfl | exact .inr rfl)) (gok_name (vs := [1]) (i := 1) (by decide) _) (fun _ _ _ _ _ => jts_nil) (fun _ _ _ _ _ => (je_len T.b_len (je_var 1))))))))
abbrev s_kind_of : Stmt := top 30
theorem sc_kind_of : FnScope ["turn"] ["turn"] (defScope s_kind_of) := ⟨rfl, rfl, rfl, by decide +kernel, rfl, by decide +kernel, by decide +kernel⟩
theorem ok_kind_of (T : Txt K mg) (R : Raw K mg "kind_of" s_kind_of ["turn"]) (d_check_turn : Df P w K mg base "check_turn" 4 ["given"] (spP K Pg.f_check_turn)) (d_kind_in : Df P w K mg base "kind_in" 2 ["turn"] (spP K Pg.f_kind_in)) : Df P w K mg base "kind_of" 5 ["turn"] (spP K Pg.f_kind_of) :=
  dfP (ss := Pg.ss_kind_of) R sc_kind_of fun f cdv A outer s H E hr hg => 
    (js_cons (js_expr (je_callD d_check_turn hr hg (ja_cons (je_var 0) ja_nil)))
    (js_one (js_ret (je_callD d_kind_in hr hg (ja_cons (je_var 0) ja_nil)))))
abbrev s_is_even_turn : Stmt := top 27
theorem sc_is_even_turn : FnScope ["turn"] ["turn"] (defScope s_is_even_turn) := ⟨rfl, rfl, rfl, by decide +kernel, rfl, by decide +kernel, by decide +kernel⟩
theorem ok_is_even_turn (T : Txt K mg) (R : Raw K mg "is_even_turn" s_is_even_turn ["turn"]) (d_rings_in : Df P w K mg base "rings_in" 1 ["turn"] (spP K Pg.f_rings_in)) : Df P w K mg base "is_even_turn" 2 ["turn"] (spP K Pg.f_is_even_turn) :=
  dfP (ss := Pg.ss_is_even_turn) R sc_is_even_turn fun f cdv A outer s H E hr hg => 
    (js_one (js_ret (je_cmp (op_eqD hr.units) ro_eq (je_mod (je_sub (je_len T.b_len (je_var 0)) (je_len T.b_len (je_callD d_rings_in hr hg (ja_cons (je_var 0) ja_nil)))) je_int) je_int (nomark _))))
abbrev s_is_even : Stmt := top 31
theorem sc_is_even : FnScope ["turn"] ["turn"] (defScope s_is_even) := ⟨rfl, rfl, rfl, by decide +kernel, rfl, by decide +kernel, by decide +kernel⟩
theorem ok_is_even (T : Txt K mg) (R : Raw K mg "is_even" s_is_even ["turn"]) (d_check_turn : Df P w K mg base "check_turn" 4 ["given"] (spP K Pg.f_check_turn)) (d_is_even_turn : Df P w K mg base "is_even_turn" 2 ["turn"] (spP K Pg.f_is_even_turn)) : Df P w K mg base "is_even" 5 ["turn"] (spP K Pg.f_is_even) :=
  dfP (ss := Pg.ss_is_even) R sc_is_even fun f cdv A outer s H E hr hg => 
    (js_cons (js_expr (je_callD d_check_turn hr hg (ja_cons (je_var 0) ja_nil)))
    (js_one (js_ret (je_callD d_is_even_turn hr hg (ja_cons (je_var 0) ja_nil)))))
abbrev s_back : Stmt := top 33
theorem sc_back : FnScope ["turn"] ["turn"] (defScope s_back) := ⟨rfl, rfl, rfl, by decide +kernel, rfl, by decide +kernel, by decide +kernel⟩
theorem ok_back (T : Txt K mg) (R : Raw K mg "back" s_back ["turn"]) (d_check_turn : Df P w K mg base "check_turn" 4 ["given"] (spP K Pg.f_check_turn)) (d_led_back : Df P w K mg base "led_back" 1 ["turn"] (spP K Pg.f_led_back)) : Df P w K mg base "back" 5 ["turn"] (spP K Pg.f_back) :=
  dfP (ss := Pg.ss_back) R sc_back fun f cdv A outer s H E hr hg => 
    (js_cons (js_expr (je_callD d_check_turn hr hg (ja_cons (je_var 0) ja_nil)))
    (js_one (js_ret (je_callD d_led_back hr hg (ja_cons (je_var 0) ja_nil)))))
abbrev s_goes_with : Stmt := top 24
theorem sc_goes_with : FnScope ["turn", "turns", "other"] ["turn", "turns"] (defScope s_goes_with) := ⟨rfl, rfl, rfl, by decide +kernel, rfl, by decide +kernel, by decide +kernel⟩
theorem ok_goes_with (T : Txt K mg) (R : Raw K mg "goes_with" s_goes_with ["turn", "turns"]) (d_one_then : Df P w K mg base "one_then" 1 ["one", "other"] (spP K Pg.f_one_then)) : Df P w K mg base "goes_with" 2 ["turn", "turns"] (spP K Pg.f_goes_with) :=
  dfP (ss := Pg.ss_goes_with) R sc_goes_with fun f cdv A outer s H E hr hg => 
    (js_one (js_ret (je_all T.b_all (je_lc sc_goes_with.nd (ji_seq (je_var 1)) (own := [("other", 2)]) (show BlkOk ["turn", "turns", "other"] (defScope s_goes_with) _ [("other", 2)] from ⟨rfl, by decide +kernel, by decide +kernel, by decide +kernel, by decide +kernel⟩) (fun _ _ _ _ _ => pg_name (i := 2) sc_goes_with.nd rfl (by first | exact Or.inl rfl | exact Or.inr rfl) (by first | exact .inl rfl | exact .inr rfl)) (gok_name (vs := [2]) (i := 2) (by decide) _) (fun _ _ _ _ _ => jts_nil) (fun _ _ _ _ _ => (je_cmp (op_eqD hr.units) ro_eq (je_callD d_one_then hr hg (ja_cons (je_var 0) (ja_cons (je_var 2) ja_nil))) (je_callD d_one_then hr hg (ja_cons (je_var 2) (ja_cons (je_var 0) ja_nil))) (nomark _)))))))
abbrev s_commutes : Stmt := top 37
theorem sc_commutes : FnScope ["one", "other"] ["one", "other"] (defScope s_commutes) := ⟨rfl, rfl, rfl, by decide +kernel, rfl, by decide +kernel, by decide +kernel⟩
theorem ok_commutes (T : Txt K mg) (R : Raw K mg "commutes" s_commutes ["one", "other"]) (d_check_two_turns : Df P w K mg base "check_two_turns" 5 ["one", "other"] (spP K Pg.f_check_two_turns)) (d_goes_with : Df P w K mg base "goes_with" 2 ["turn", "turns"] (spP K Pg.f_goes_with)) : Df P w K mg base "commutes" 6 ["one", "other"] (spP K Pg.f_commutes) :=
  dfP (ss := Pg.ss_commutes) R sc_commutes fun f cdv A outer s H E hr hg => 
    (js_cons (js_expr (je_callD d_check_two_turns hr hg (ja_cons (je_var 0) (ja_cons (je_var 1) ja_nil))))
    (js_one (js_ret (je_callD d_goes_with hr hg (ja_cons (je_var 0) (ja_cons (je_lst (ja_cons (je_var 1) ja_nil)) ja_nil))))))
abbrev s_rings : Stmt := top 29
theorem sc_rings : FnScope ["turn"] ["turn"] (defScope s_rings) := ⟨rfl, rfl, rfl, by decide +kernel, rfl, by decide +kernel, by decide +kernel⟩
theorem ok_rings (T : Txt K mg) (R : Raw K mg "rings" s_rings ["turn"]) (d_check_turn : Df P w K mg base "check_turn" 4 ["given"] (spP K Pg.f_check_turn)) (d_rings_in : Df P w K mg base "rings_in" 1 ["turn"] (spP K Pg.f_rings_in)) : Df P w K mg base "rings" 5 ["turn"] (spP K Pg.f_rings) :=
  dfP (ss := Pg.ss_rings) R sc_rings fun f cdv A outer s H E hr hg => 
    (js_cons (js_expr (je_callD d_check_turn hr hg (ja_cons (je_var 0) ja_nil)))
    (js_one (js_ret (je_callD d_rings_in hr hg (ja_cons (je_var 0) ja_nil)))))
abbrev s_l_pairs_right : Stmt := top 52
theorem sc_l_pairs_right : FnScope ["_law_near", "_law_far", "_law_third", "_law_made", "_law_renamed", "_law_at", "_law_lots", "_law_is_one", "_law_loop_here"] ["_law_near", "_law_far", "_law_third"] (defScope s_l_pairs_right) := ⟨rfl, rfl, rfl, by decide +kernel, rfl, by decide +kernel, by decide +kernel⟩
theorem ok_l_pairs_right (T : Txt K mg) (R : Raw K mg "_law_pairs_right" s_l_pairs_right ["_law_near", "_law_far", "_law_third"]) (d_then : Df P w K mg base "then" 6 ["one", "other"] (spP K Pg.f_then)) (d_l_behind : Df P w K mg base "_law_behind" 1 ["_law_near", "_law_far"] (spP K Pg.f_one_then)) (d_kind_of : Df P w K mg base "kind_of" 5 ["turn"] (spP K Pg.f_kind_of)) (d_is_even : Df P w K mg base "is_even" 5 ["turn"] (spP K Pg.f_is_even)) (d_back : Df P w K mg base "back" 5 ["turn"] (spP K Pg.f_back)) (d_turned_by : Df P w K mg base "turned_by" 6 ["turn", "other"] (spP K Pg.f_turned_by)) (d_rings : Df P w K mg base "rings" 5 ["turn"] (spP K Pg.f_rings)) (d_commutes : Df P w K mg base "commutes" 6 ["one", "other"] (spP K Pg.f_commutes)) : Df P w K mg base "_law_pairs_right" 7 ["_law_near", "_law_far", "_law_third"] (spP K Pg.f_l_pairs_right_k02) :=
  dfP (ss := Pg.ss_l_pairs_right_k02) R sc_l_pairs_right fun f cdv A outer s H E hr hg => 
    (js_cons (js_set (i := 3) (je_callD d_then hr hg (ja_cons (je_var 0) (ja_cons (je_var 1) ja_nil))) sc_l_pairs_right.nd)
    (js_cons (js_if (jt_w (jw_or (jt_cmp (op_neD hr.units) ro_ne (je_var 3) (je_callD d_l_behind hr hg (ja_cons (je_var 0) (ja_cons (je_var 1) ja_nil))) (nomark _)) (jw_or1 (jt_cmp (op_neD hr.units) ro_ne (je_callKD true d_then hr hg (jk_cons (je_var 1) (jk_cons (je_var 0) jk_nil))) (je_var 3) (nomark _))))) (js_one (js_ret je_bl)) js_nil)
    (js_cons (js_if (jt_w (jw_or (jt_cmp (op_neD hr.units) ro_ne (je_callD d_kind_of hr hg (ja_cons (je_var 3) ja_nil)) (je_callD d_kind_of hr hg (ja_cons (je_callD d_then hr hg (ja_cons (je_var 1) (ja_cons (je_var 0) ja_nil))) ja_nil)) (nomark _)) (jw_or1 (jt_cmp (op_neD hr.units) ro_ne (je_callD d_is_even hr hg (ja_cons (je_var 3) ja_nil)) (je_cmp (op_eqD hr.units) ro_eq (je_callD d_is_even hr hg (ja_cons (je_var 0) ja_nil)) (je_callD d_is_even hr hg (ja_cons (je_var 1) ja_nil)) (nomark _)) (nomark _))))) (js_one (js_ret je_bl)) js_nil)
    (js_cons (js_if (jt_w (jw_or (jt_cmp (op_neD hr.units) ro_ne (je_callD d_then hr hg (ja_cons (je_var 3) (ja_cons (je_var 2) ja_nil))) (je_callD d_then hr hg (ja_cons (je_var 0) (ja_cons (je_callD d_then hr hg (ja_cons (je_var 1) (ja_cons (je_var 2) ja_nil))) ja_nil))) (nomark _)) (jw_or1 (jt_cmp (op_neD hr.units) ro_ne (je_callD d_back hr hg (ja_cons (je_var 3) ja_nil)) (je_callD d_then hr hg (ja_cons (je_callD d_back hr hg (ja_cons (je_var 1) ja_nil)) (ja_cons (je_callD d_back hr hg (ja_cons (je_var 0) ja_nil)) ja_nil))) (nomark _))))) (js_one (js_ret je_bl)) js_nil)
    (js_cons (js_set (i := 4) (je_callD d_turned_by hr hg (ja_cons (je_var 0) (ja_cons (je_var 1) ja_nil))) sc_l_pairs_right.nd)
    (js_cons (js_for PassesOwn.never (ji_range1 T.b_range (ja_cons (je_len T.b_len (je_var 0)) ja_nil)) (jg_name (i := 5) sc_l_pairs_right.nd) (js_one (js_if (jt_cmp (op_neD hr.units) ro_ne (je_at (je_var 4) (je_at (je_var 0) (je_var 5))) (je_at (je_var 0) (je_at (je_var 1) (je_var 5))) (nomark _)) (js_one (js_ret je_bl)) js_nil)))
    (js_cons (js_if (jt_w (jw_or (jt_cmp (op_neD hr.units) ro_ne (je_callKD true d_turned_by hr hg (jk_cons (je_var 1) (jk_cons (je_var 0) jk_nil))) (je_var 4) (nomark _)) (jw_or1 (jt_cmp (op_neD hr.units) ro_ne (je_callD d_kind_of hr hg (ja_cons (je_var 4) ja_nil)) (je_callD d_kind_of hr hg (ja_cons (je_var 1) ja_nil)) (nomark _))))) (js_one (js_ret je_bl)) js_nil)
    (js_cons (js_set (i := 6) (je_sortedU hr.units T.b_sorted (je_lc sc_l_pairs_right.nd (ji_seq (je_callD d_rings hr hg (ja_cons (je_var 1) ja_nil))) (own := [("_law_loop_here", 8)]) (show BlkOk ["_law_near", "_law_far", "_law_third", "_law_made", "_law_renamed", "_law_at", "_law_lots", "_law_is_one", "_law_loop_here"] (defScope s_l_pairs_right) _ [("_law_loop_here", 8)] from ⟨rfl, by decide +kernel, by decide +kernel, by decide +kernel, by decide +kernel⟩) (fun _ _ _ _ _ => pg_name (i := 8) sc_l_pairs_right.nd rfl (by first | exact Or.inl rfl | exact Or.inr rfl) (by first | exact .inl rfl | exact .inr rfl)) (gok_name (vs := [8]) (i := 8) (by decide) _) (fun _ _ _ _ _ => jts_nil) (fun _ _ _ _ _ => (je_sortedU hr.units T.b_sorted (je_lc sc_l_pairs_right.nd (ji_seq (je_var 8)) (own := [("_law_at", 5)]) (⟨rfl, of_decide_eq_true (by rfl), of_decide_eq_true (by rfl), of_decide_eq_true (by rfl), of_decide_eq_true (by rfl)⟩) (fun _ _ _ _ _ => pg_name (i := 5) sc_l_pairs_right.nd rfl (by first | exact Or.inl rfl | exact Or.inr rfl) (by first | exact .inl rfl | exact .inr rfl)) (gok_name (vs := [5]) (i := 5) (by decide) _) (fun _ _ _ _ _ => jts_nil) (fun _ _ _ _ _ => (je_at (je_var 0) (je_var 5)))))))) sc_l_pairs_right.nd)
    (js_cons (js_if (jt_cmp (op_neD hr.units) ro_ne (je_sortedU hr.units T.b_sorted (je_lc sc_l_pairs_right.nd (ji_seq (je_callD d_rings hr hg (ja_cons (je_var 4) ja_nil))) (own := [("_law_loop_here", 8)]) (show BlkOk ["_law_near", "_law_far", "_law_third", "_law_made", "_law_renamed", "_law_at", "_law_lots", "_law_is_one", "_law_loop_here"] (defScope s_l_pairs_right) _ [("_law_loop_here", 8)] from ⟨rfl, by decide +kernel, by decide +kernel, by decide +kernel, by decide +kernel⟩) (fun _ _ _ _ _ => pg_name (i := 8) sc_l_pairs_right.nd rfl (by first | exact Or.inl rfl | exact Or.inr rfl) (by first | exact .inl rfl | exact .inr rfl)) (gok_name (vs := [8]) (i := 8) (by decide) _) (fun _ _ _ _ _ => jts_nil) (fun _ _ _ _ _ => (je_sortedU hr.units T.b_sorted (je_var 8))))) (je_var 6) (nomark _)) (js_one (js_ret je_bl)) js_nil)
    (js_cons (js_set (i := 7) (je_cmp (op_eqD hr.units) ro_eq (je_callD d_l_behind hr hg (ja_cons (je_var 0) (ja_cons (je_var 1) ja_nil))) (je_callD d_l_behind hr hg (ja_cons (je_var 1) (ja_cons (je_var 0) ja_nil))) (nomark _)) sc_l_pairs_right.nd)
    (js_cons (js_if (jt_cmp (op_neD hr.units) ro_ne (je_repr hr.units hg T.b_repr (je_lst (ja_cons (je_callD d_commutes hr hg (ja_cons (je_var 0) (ja_cons (je_var 1) ja_nil))) (ja_cons (je_callKD true d_commutes hr hg (jk_cons (je_var 0) (jk_cons (je_var 1) jk_nil))) ja_nil)))) (je_repr hr.units hg T.b_repr (je_mul (je_lst (ja_cons (je_var 7) ja_nil)) je_int)) (nomark _)) (js_one (js_ret je_bl)) js_nil)
    (js_cons (js_if (jt_w (jw_or (jt_cmp (op_neD hr.units) ro_ne (je_callD d_commutes hr hg (ja_cons (je_callD d_turned_by hr hg (ja_cons (je_var 2) (ja_cons (je_var 0) ja_nil))) (ja_cons (je_callD d_turned_by hr hg (ja_cons (je_var 2) (ja_cons (je_var 1) ja_nil))) ja_nil))) (je_var 7) (nomark _)) (jw_or1 (jt_cmp (op_neD hr.units) ro_ne (je_cmp (op_eqD hr.units) ro_eq (je_var 4) (je_var 1) (nomark _)) (je_var 7) (nomark _))))) (js_one (js_ret je_bl)) js_nil)
    (js_one (js_ret (je_cmp (op_eqD hr.units) ro_eq (je_callD d_turned_by hr hg (ja_cons (je_var 0) (ja_cons (je_callD d_turned_by hr hg (ja_cons (je_var 2) (ja_cons (je_var 1) ja_nil))) ja_nil))) (je_callD d_turned_by hr hg (ja_cons (je_callD d_then hr hg (ja_cons (je_var 2) (ja_cons (je_var 0) ja_nil))) (ja_cons (je_var 1) ja_nil))) (nomark _))))))))))))))))
abbrev s_moved : Stmt := top 35
theorem sc_moved : FnScope ["turn", "place", "goal"] ["turn"] (defScope s_moved) := ⟨rfl, rfl, rfl, by decide +kernel, rfl, by decide +kernel, by decide +kernel⟩
theorem ok_moved (T : Txt K mg) (R : Raw K mg "moved" s_moved ["turn"]) (d_check_turn : Df P w K mg base "check_turn" 4 ["given"] (spP K Pg.f_check_turn)) : Df P w K mg base "moved" 5 ["turn"] (spP K Pg.f_moved) :=
  dfP (ss := Pg.ss_moved) R sc_moved fun f cdv A outer s H E hr hg => 
    (js_cons (js_expr (je_callD d_check_turn hr hg (ja_cons (je_var 0) ja_nil)))
    (js_one (js_ret (je_tuple T.b_tuple (je_lc sc_moved.nd (ji_enum T.b_enumerate (je_var 0)) (own := [("place", 1), ("goal", 2)]) (show BlkOk ["turn", "place", "goal"] (defScope s_moved) _ [("place", 1), ("goal", 2)] from ⟨rfl, by decide +kernel, by decide +kernel, by decide +kernel, by decide +kernel⟩) (fun _ _ _ _ _ => pg_tup rfl (pgs_cons (pg_name (i := 1) sc_moved.nd rfl (by first | exact Or.inl rfl | exact Or.inr rfl) (by first | exact .inl rfl | exact .inr rfl)) (pgs_cons (pg_name (i := 2) sc_moved.nd rfl (by first | exact Or.inl rfl | exact Or.inr rfl) (by first | exact .inl rfl | exact .inr rfl)) pgs_nil rfl) rfl) rfl rfl) (gok_two (vs := [1, 2]) (i := 1) (j := 2) (by decide) (by decide) _) (fun _ _ _ _ _ => pts_one (jt_cmp (op_neD hr.units) ro_ne (je_var 1) (je_var 2) (nomark _))) (fun _ _ _ _ _ => (je_var 1)))))))
abbrev s_l_loops : Stmt := top 46
theorem sc_l_loops : FnScope ["_law_spin_here", "_law_at", "_law_found", "_law_gone", "_law_loop_here", "_law_here"] ["_law_spin_here"] (defScope s_l_loops) := ⟨rfl, rfl, rfl, by decide +kernel, rfl, by decide +kernel, by decide +kernel⟩
theorem ok_l_loops (T : Txt K mg) (R : Raw K mg "_law_loops" s_l_loops ["_law_spin_here"]) : Df P w K mg base "_law_loops" 1 ["_law_spin_here"] (spP K Pg.f_l_loops) :=
  dfP (ss := Pg.ss_l_loops) R sc_l_loops fun f cdv A outer s H E hr hg => 
    (js_cons (js_par (ps_par rfl sc_l_loops.nd rfl rfl (by decide) rfl rfl (pa_cons (je_lst ja_nil) (pa_cons (je_lst ja_nil) pa_nil)) rfl))
    (js_cons (js_for PassesOwn.never (ji_range1 T.b_range (ja_cons (je_len T.b_len (je_var 0)) ja_nil)) (jg_name (i := 1) sc_l_loops.nd) (js_cons (js_par (ps_par rfl sc_l_loops.nd rfl rfl (by decide) rfl rfl (pa_cons (je_lst ja_nil) (pa_cons (je_var 1) pa_nil)) rfl))
    (js_cons (js_while 100000 PassesOwn.never (jt_cmp op_notIn_seq ro_notIn (je_var 5) (je_var 3) (by with_unfolding_all rfl)) (js_cons (js_expr (je_mut (i := 3) rm_app (pe_bm PySem.F.plainAttrs_list PySem.F.slot_list_append PySem.F.type_list_append mt_append (pv 3) (ja_cons (je_var 5) ja_nil))))
    (js_cons (js_expr (je_mut (i := 4) rm_app (pe_bm PySem.F.plainAttrs_list PySem.F.slot_list_append PySem.F.type_list_append mt_append (pv 4) (ja_cons (je_var 5) ja_nil))))
    (js_one (js_set (i := 5) (je_at (je_var 0) (je_var 5)) sc_l_loops.nd)))))
    (js_one (js_if (jt_cmp (op_neD hr.units) ro_ne (je_var 4) (je_lst ja_nil) (nomark _)) (js_one (js_expr (je_mut (i := 2) rm_app (pe_bm PySem.F.plainAttrs_list PySem.F.slot_list_append PySem.F.type_list_append mt_append (pv 2) (ja_cons (je_tuple T.b_tuple (je_var 4)) ja_nil))))) js_nil)))))
    (js_one (js_ret (je_tuple T.b_tuple (je_var 2))))))
abbrev s_l_lens : Stmt := top 47
theorem sc_l_lens : FnScope ["_law_spin_here", "_law_loop_here"] ["_law_spin_here"] (defScope s_l_lens) := ⟨rfl, rfl, rfl, by decide +kernel, rfl, by decide +kernel, by decide +kernel⟩
theorem ok_l_lens (T : Txt K mg) (R : Raw K mg "_law_lens" s_l_lens ["_law_spin_here"]) (d_l_loops : Df P w K mg base "_law_loops" 1 ["_law_spin_here"] (spP K Pg.f_l_loops)) : Df P w K mg base "_law_lens" 2 ["_law_spin_here"] (spP K Pg.f_l_lens) :=
  dfP (ss := Pg.ss_l_lens) R sc_l_lens fun f cdv A outer s H E hr hg => 
    (js_one (js_ret (je_tuple T.b_tuple (je_rev (je_sortedU hr.units T.b_sorted (je_lc sc_l_lens.nd (ji_seq (je_callD d_l_loops hr hg (ja_cons (je_var 0) ja_nil))) (own := [("_law_loop_here", 1)]) (show BlkOk ["_law_spin_here", "_law_loop_here"] (defScope s_l_lens) _ [("_law_loop_here", 1)] from ⟨rfl, by decide +kernel, by decide +kernel, by decide +kernel, by decide +kernel⟩) (fun _ _ _ _ _ => pg_name (i := 1) sc_l_lens.nd rfl (by first | exact Or.inl rfl | exact Or.inr rfl) (by first | exact .inl rfl | exact .inr rfl)) (gok_name (vs := [1]) (i := 1) (by decide) _) (fun _ _ _ _ _ => jts_nil) (fun _ _ _ _ _ => (je_len T.b_len (je_var 1)))))))))
abbrev s_check_number : Stmt := top 15
theorem sc_check_number : FnScope ["given", "least", "most"] ["given", "least", "most"] (defScope s_check_number) := ⟨rfl, rfl, rfl, by decide +kernel, rfl, by decide +kernel, by decide +kernel⟩
theorem ok_check_number (T : Txt K mg) (R : Raw K mg "check_number" s_check_number ["given", "least", "most"]) (d_is_integer : Df P w K mg base "is_integer" 1 ["given", "least", "most"] (spP K Pg.f_is_integer)) : Df P w K mg base "check_number" 2 ["given", "least", "most"] (spP K Pg.f_check_number) :=
  dfP (ss := Pg.ss_check_number) R sc_check_number fun f cdv A outer s H E hr hg => 
    (js_one (js_if (jt_not (jt_val (je_callD d_is_integer hr hg (ja_cons (je_var 0) (ja_cons (je_var 1) (ja_cons (je_var 2) ja_nil)))))) (js_one js_never) js_nil))
abbrev s_along : Stmt := top 25
theorem sc_along : FnScope ["size", "some_rings", "steps", "goals", "ring", "at", "place"] ["size", "some_rings", "steps"] (defScope s_along) := ⟨rfl, rfl, rfl, by decide +kernel, rfl, by decide +kernel, by decide +kernel⟩
theorem ok_along (T : Txt K mg) (R : Raw K mg "along" s_along ["size", "some_rings", "steps"]) : Df P w K mg base "along" 1 ["size", "some_rings", "steps"] (spP K Pg.f_along) :=
  dfP (ss := Pg.ss_along) R sc_along fun f cdv A outer s H E hr hg => 
    (js_cons (js_set (i := 3) (je_listRg1 T.b_list T.b_range (je_var 0)) sc_along.nd)
    (js_cons (js_for PassesOwn.never (ji_seq (je_var 1)) (jg_name (i := 4) sc_along.nd) (js_one (js_for PassesOwn.never (ji_enum T.b_enumerate (je_var 4)) (jg_two (i := 5) (j := 6) (pg_name (i := 5) sc_along.nd rfl (by first | exact Or.inl rfl | exact Or.inr rfl)) (pg_name (i := 6) sc_along.nd rfl (by first | exact Or.inl rfl | exact Or.inr rfl))) (js_one (js_setIx (ps_asg (je_at (je_var 4) (je_mod (je_add (je_var 5) (je_var 2)) (je_len T.b_len (je_var 4)))) (pg_sub (pv 3) (je_var 6) set_list)))))))
    (js_one (js_ret (je_tuple T.b_tuple (je_var 3))))))
abbrev s_are_rings : Stmt := top 13
theorem sc_are_rings : FnScope ["given", "size", "places", "ring"] ["given", "size"] (defScope s_are_rings) := ⟨rfl, rfl, rfl, by decide +kernel, rfl, by decide +kernel, by decide +kernel⟩
theorem ok_are_rings (T : Txt K mg) (R : Raw K mg "are_rings" s_are_rings ["given", "size"]) (d_are_unlike_places : Df P w K mg base "are_unlike_places" 2 ["places", "size"] (spP K Pg.f_are_unlike_places)) : Df P w K mg base "are_rings" 3 ["given", "size"] (spP K Pg.f_are_rings) :=
  dfP (ss := Pg.ss_are_rings) R sc_are_rings fun f cdv A outer s H E hr hg => 
    (js_cons (js_if (jt_not (jt_val (je_isi T.b_isinstance T.b_tuple (by decide +kernel) (je_var 0)))) (js_one (js_ret je_bl)) js_nil)
    (js_cons (js_set (i := 2) (je_lst ja_nil) sc_are_rings.nd)
    (js_cons (js_for PassesOwn.never (ji_seq (je_var 0)) (jg_name (i := 3) sc_are_rings.nd) (js_cons (js_if (jt_w (jw_or (jt_not (jt_val (je_isi T.b_isinstance T.b_tuple (by decide +kernel) (je_var 3)))) (jw_or1 (jt_cmp (op_eqD hr.units) ro_eq (je_len T.b_len (je_var 3)) je_int (nomark _))))) (js_one (js_ret je_bl)) js_nil)
    (js_one (js_expr (je_mut (i := 2) rm_extT (pe_bm PySem.F.plainAttrs_list PySem.F.slot_list_extend PySem.F.type_list_extend mt_extendT (pv 2) (ja_cons (je_var 3) ja_nil)))))))
    (js_one (js_ret (je_callD d_are_unlike_places hr hg (ja_cons (je_var 2) (ja_cons (je_var 1) ja_nil))))))))
abbrev s_turn_of : Stmt := top 34
theorem sc_turn_of : FnScope ["size", "rings"] ["size", "rings"] (defScope s_turn_of) := ⟨rfl, rfl, rfl, by decide +kernel, rfl, by decide +kernel, by decide +kernel⟩
theorem ok_turn_of (T : Txt K mg) (R : Raw K mg "turn_of" s_turn_of ["size", "rings"]) (d_check_number : Df P w K mg base "check_number" 2 ["given", "least", "most"] (spP K Pg.f_check_number)) (d_are_rings : Df P w K mg base "are_rings" 3 ["given", "size"] (spP K Pg.f_are_rings)) (d_along : Df P w K mg base "along" 1 ["size", "some_rings", "steps"] (spP K Pg.f_along)) : Df P w K mg base "turn_of" 4 ["size", "rings"] (spP K Pg.f_turn_of) :=
  dfP (ss := Pg.ss_turn_of) R sc_turn_of fun f cdv A outer s H E hr hg => 
    (js_cons (js_expr (je_callD d_check_number hr hg (ja_cons (je_var 0) (ja_cons je_int (ja_cons (je_glob T.g_MOST_PLACES.choose_spec) ja_nil)))))
    (js_cons (js_if (jt_not (jt_val (je_callD d_are_rings hr hg (ja_cons (je_var 1) (ja_cons (je_var 0) ja_nil))))) (js_one js_never) js_nil)
    (js_one (js_ret (je_callD d_along hr hg (ja_cons (je_var 0) (ja_cons (je_var 1) (ja_cons je_int ja_nil))))))))
abbrev s_is_kind : Stmt := top 14
theorem sc_is_kind : FnScope ["given", "most", "length"] ["given"] (defScope s_is_kind) := ⟨rfl, rfl, rfl, by decide +kernel, rfl, by decide +kernel, by decide +kernel⟩
theorem ok_is_kind (T : Txt K mg) (R : Raw K mg "is_kind" s_is_kind ["given"]) (d_is_integer : Df P w K mg base "is_integer" 1 ["given", "least", "most"] (spP K Pg.f_is_integer)) : Df P w K mg base "is_kind" 2 ["given"] (spP K Pg.f_is_kind) :=
  dfP (ss := Pg.ss_is_kind) R sc_is_kind fun f cdv A outer s H E hr hg => 
    (js_cons (js_if (jt_w (jw_or (jt_not (jt_val (je_isi T.b_isinstance T.b_tuple (by decide +kernel) (je_var 0)))) (jw_or1 (jt_not (jt_chain op_le ro_le op_le ro_le je_int (je_len T.b_len (je_var 0)) (je_glob T.g_MOST_PLACES.choose_spec)))))) (js_one (js_ret je_bl)) js_nil)
    (js_cons (js_set (i := 1) (je_glob T.g_MOST_PLACES.choose_spec) sc_is_kind.nd)
    (js_cons (js_for PassesOwn.never (ji_seq (je_var 0)) (jg_name (i := 2) sc_is_kind.nd) (js_cons (js_if (jt_not (jt_val (je_callD d_is_integer hr hg (ja_cons (je_var 2) (ja_cons je_int (ja_cons (je_var 1) ja_nil)))))) (js_one (js_ret je_bl)) js_nil)
    (js_one (js_set (i := 1) (je_var 2) sc_is_kind.nd))))
    (js_one (js_ret (je_cmp op_le ro_le (je_sumT T.b_sum (je_var 0)) (je_glob T.g_MOST_PLACES.choose_spec) (nomark _)))))))
abbrev s_check_kind : Stmt := top 18
theorem sc_check_kind : FnScope ["given"] ["given"] (defScope s_check_kind) := ⟨rfl, rfl, rfl, by decide +kernel, rfl, by decide +kernel, by decide +kernel⟩
theorem ok_check_kind (T : Txt K mg) (R : Raw K mg "check_kind" s_check_kind ["given"]) (d_is_kind : Df P w K mg base "is_kind" 2 ["given"] (spP K Pg.f_is_kind)) : Df P w K mg base "check_kind" 3 ["given"] (spP K Pg.f_check_kind) :=
  dfP (ss := Pg.ss_check_kind) R sc_check_kind fun f cdv A outer s H E hr hg => 
    (js_one (js_if (jt_not (jt_val (je_callD d_is_kind hr hg (ja_cons (je_var 0) ja_nil)))) (js_one js_never) js_nil))
abbrev s_how_many_turns : Stmt := top 39
theorem sc_how_many_turns : FnScope ["kind", "writings", "alike", "at", "length"] ["kind"] (defScope s_how_many_turns) := ⟨rfl, rfl, rfl, by decide +kernel, rfl, by decide +kernel, by decide +kernel⟩
theorem ok_how_many_turns (T : Txt K mg) (R : Raw K mg "how_many_turns" s_how_many_turns ["kind"]) (d_check_kind : Df P w K mg base "check_kind" 3 ["given"] (spP K Pg.f_check_kind)) : Df P w K mg base "how_many_turns" 4 ["kind"] (spP K Pg.f_how_many_turns) :=
  dfP (ss := Pg.ss_how_many_turns) R sc_how_many_turns fun f cdv A outer s H E hr hg => 
    (js_cons (js_expr (je_callD d_check_kind hr hg (ja_cons (je_var 0) ja_nil)))
    (js_cons (js_set (i := 1) je_int sc_how_many_turns.nd)
    (js_cons (js_set (i := 2) je_int sc_how_many_turns.nd)
    (js_cons (js_for PassesOwn.never (ji_enum T.b_enumerate (je_var 0)) (jg_two (i := 3) (j := 4) (pg_name (i := 3) sc_how_many_turns.nd rfl (by first | exact Or.inl rfl | exact Or.inr rfl)) (pg_name (i := 4) sc_how_many_turns.nd rfl (by first | exact Or.inl rfl | exact Or.inr rfl))) (js_cons (js_set (i := 2) (je_if (jt_w (jw_and (jt_cmp op_gtB ro_gt (je_var 3) je_int (nomark _)) (jw_and1 (jt_cmp (op_eqD hr.units) ro_eq (je_at (je_var 0) (je_sub (je_var 3) je_int)) (je_var 4) (nomark _))))) (je_add (je_var 2) je_int) je_int) sc_how_many_turns.nd)
    (js_one (js_set (i := 1) (je_mul (je_mul (je_var 1) (je_var 4)) (je_var 2)) sc_how_many_turns.nd))))
    (js_one (js_ret (je_fdiv (je_m1 cr_fact ro_fact T.i_factorial (je_sumT T.b_sum (je_var 0))) (je_var 1))))))))
abbrev s_l_crossed : Stmt := top 50
theorem sc_l_crossed : FnScope ["_law_spin_here", "_law_found", "_law_k", "_law_far"] ["_law_spin_here"] (defScope s_l_crossed) := ⟨rfl, rfl, rfl, by decide +kernel, rfl, by decide +kernel, by decide +kernel⟩
theorem ok_l_crossed (T : Txt K mg) (R : Raw K mg "_law_crossed" s_l_crossed ["_law_spin_here"]) : Df P w K mg base "_law_crossed" 1 ["_law_spin_here"] (spP K Pg.f_l_crossed) :=
  dfP (ss := Pg.ss_l_crossed) R sc_l_crossed fun f cdv A outer s H E hr hg => 
    (js_cons (js_set (i := 1) je_int sc_l_crossed.nd)
    (js_cons (js_for PassesOwn.never (ji_range1 T.b_range (ja_cons (je_len T.b_len (je_var 0)) ja_nil)) (jg_name (i := 2) sc_l_crossed.nd) (js_one (js_set (i := 1) (je_add (je_var 1) (je_len T.b_len (je_lc sc_l_crossed.nd (ji_seq (je_sl (je_var 0) (jo_some (je_add (je_var 2) je_int)) jo_none)) (own := [("_law_far", 3)]) (show BlkOk ["_law_spin_here", "_law_found", "_law_k", "_law_far"] (defScope s_l_crossed) _ [("_law_far", 3)] from ⟨rfl, by decide +kernel, by decide +kernel, by decide +kernel, by decide +kernel⟩) (fun _ _ _ _ _ => pg_name (i := 3) sc_l_crossed.nd rfl (by first | exact Or.inl rfl | exact Or.inr rfl) (by first | exact .inl rfl | exact .inr rfl)) (gok_name (vs := [3]) (i := 3) (by decide) _) (fun _ _ _ _ _ => pts_one (jt_cmp op_lt ro_lt (je_var 3) (je_at (je_var 0) (je_var 2)) (nomark _))) (fun _ _ _ _ _ => (je_var 3))))) sc_l_crossed.nd)))
    (js_one (js_ret (je_var 1)))))
abbrev s_l_single_right : Stmt := top 51
theorem sc_l_single_right : FnScope ["_law_cup_here", "_law_spin_here", "_law_loops_here", "_law_told", "_law_even_here", "_law_due", "_law_some", "_law_loop_here", "_law_again", "_law_at"] ["_law_cup_here", "_law_spin_here"] (defScope s_l_single_right) := ⟨rfl, rfl, rfl, by decide +kernel, rfl, by decide +kernel, by decide +kernel⟩
theorem ok_l_single_right (T : Txt K mg) (R : Raw K mg "_law_single_right" s_l_single_right ["_law_cup_here", "_law_spin_here"]) (d_l_loops : Df P w K mg base "_law_loops" 1 ["_law_spin_here"] (spP K Pg.f_l_loops)) (d_rings : Df P w K mg base "rings" 5 ["turn"] (spP K Pg.f_rings)) (d_kind_of : Df P w K mg base "kind_of" 5 ["turn"] (spP K Pg.f_kind_of)) (d_is_even : Df P w K mg base "is_even" 5 ["turn"] (spP K Pg.f_is_even)) (d_moved : Df P w K mg base "moved" 5 ["turn"] (spP K Pg.f_moved)) (d_l_crossed : Df P w K mg base "_law_crossed" 1 ["_law_spin_here"] (spP K Pg.f_l_crossed)) (d_l_lens : Df P w K mg base "_law_lens" 2 ["_law_spin_here"] (spP K Pg.f_l_lens)) (d_l_sip : Df P w K mg base "_law_sip" 1 ["_law_cup_here", "_law_top"] (spC K f_l_sip)) (d_turn_of : Df P w K mg base "turn_of" 4 ["size", "rings"] (spP K Pg.f_turn_of)) (d_back : Df P w K mg base "back" 5 ["turn"] (spP K Pg.f_back)) (d_l_behind : Df P w K mg base "_law_behind" 1 ["_law_near", "_law_far"] (spP K Pg.f_one_then)) (d_l_still : Df P w K mg base "_law_still" 1 ["_law_many_here"] (spP K Pg.f_l_still)) (d_how_many_turns : Df P w K mg base "how_many_turns" 4 ["kind"] (spP K Pg.f_how_many_turns)) : Df P w K mg base "_law_single_right" 6 ["_law_cup_here", "_law_spin_here"] (spC K Pg.f_l_single_right_k02) :=
  dfC (ss := Pg.ss_l_single_right_k02) R sc_l_single_right (by decide) fun f c cdv A outer s H E hr hg => 
    (js_cons (js_set (i := 2) (je_callD d_l_loops hr hg (ja_cons (je_var 1) ja_nil)) sc_l_single_right.nd)
    (js_cons (js_set (i := 3) (je_lst (ja_cons (je_callD d_rings hr hg (ja_cons (je_var 1) ja_nil)) (ja_cons (je_callD d_kind_of hr hg (ja_cons (je_var 1) ja_nil)) (ja_cons (je_callD d_is_even hr hg (ja_cons (je_var 1) ja_nil)) (ja_cons (je_callD d_moved hr hg (ja_cons (je_var 1) ja_nil)) ja_nil))))) sc_l_single_right.nd)
    (js_cons (js_set (i := 4) (je_cmp (op_eqD hr.units) ro_eq (je_mod (je_intc T.b_int (je_callD d_l_crossed hr hg (ja_cons (je_var 1) ja_nil))) je_int) je_int (nomark _)) sc_l_single_right.nd)
    (js_cons (js_set (i := 5) (je_lst (ja_cons (je_var 2) (ja_cons (je_callD d_l_lens hr hg (ja_cons (je_var 1) ja_nil)) (ja_cons (je_var 4) (ja_cons (je_tuple T.b_tuple (je_lc sc_l_single_right.nd (ji_range1 T.b_range (ja_cons (je_len T.b_len (je_var 1)) ja_nil)) (own := [("_law_at", 9)]) (show BlkOk ["_law_cup_here", "_law_spin_here", "_law_loops_here", "_law_told", "_law_even_here", "_law_due", "_law_some", "_law_loop_here", "_law_again", "_law_at"] (defScope s_l_single_right) _ [("_law_at", 9)] from ⟨rfl, by decide +kernel, by decide +kernel, by decide +kernel, by decide +kernel⟩) (fun _ _ _ _ _ => pg_name (i := 9) sc_l_single_right.nd rfl (by first | exact Or.inl rfl | exact Or.inr rfl) (by first | exact .inl rfl | exact .inr rfl)) (gok_name (vs := [9]) (i := 9) (by decide) _) (fun _ _ _ _ _ => pts_one (jt_cmp (op_neD hr.units) ro_ne (je_at (je_var 1) (je_var 9)) (je_var 9) (nomark _))) (fun _ _ _ _ _ => (je_var 9)))) ja_nil))))) sc_l_single_right.nd)
    (js_cons (js_if (jt_w (jw_or (jt_cmp (op_neD hr.units) ro_ne (je_repr hr.units hg T.b_repr (je_var 3)) (je_repr hr.units hg T.b_repr (je_var 5)) (nomark _)) (jw_or1 (jt_cmp (op_neD hr.units) ro_ne (je_repr hr.units hg T.b_repr (je_lst (ja_cons (je_callKD false d_rings hr hg (jk_cons (je_var 1) jk_nil)) (ja_cons (je_callKD false d_kind_of hr hg (jk_cons (je_var 1) jk_nil)) ja_nil)))) (je_repr hr.units hg T.b_repr (je_sl (je_var 5) jo_none (jo_some je_int))) (nomark _))))) (js_one (js_ret je_bl)) js_nil)
    (js_cons (js_set (i := 6) (je_lst ja_nil) sc_l_single_right.nd)
    (js_cons (js_for PassesOwn.never (ji_seq (je_var 2)) (jg_name (i := 7) sc_l_single_right.nd) (js_cons (js_set (i := 9) (je_callCD 0 d_l_sip hr hg (ja_cons (je_len T.b_len (je_var 7)) ja_nil)) sc_l_single_right.nd)
    (js_one (js_if (jt_w (jw_or (jt_cmp op_gtB ro_gt (je_len T.b_len (je_var 7)) je_int (nomark _)) (jw_or1 (jt_cmp (op_eqD hr.units) ro_eq (je_callCD 0 d_l_sip hr hg (ja_cons je_int ja_nil)) je_int (nomark _))))) (js_one (js_expr (je_mut (i := 6) rm_ins (pe_bm PySem.F.plainAttrs_list PySem.F.slot_list_insert PySem.F.type_list_insert mt_insert (pv 6) (ja_cons (je_callCD 0 d_l_sip hr hg (ja_cons (je_add (je_len T.b_len (je_var 6)) je_int) ja_nil)) (ja_cons (je_add (je_sl (je_var 7) (jo_some (je_var 9)) jo_none) (je_sl (je_var 7) jo_none (jo_some (je_var 9)))) ja_nil)))))) js_nil))))
    (js_cons (js_if (jt_w (jw_or (jt_cmp (op_neD hr.units) ro_ne (je_callD d_turn_of hr hg (ja_cons (je_len T.b_len (je_var 1)) (ja_cons (je_tuple T.b_tuple (je_var 6)) ja_nil))) (je_var 1) (nomark _)) (jw_or1 (jt_cmp (op_neD hr.units) ro_ne (je_callKD true d_turn_of hr hg (jk_cons (je_tuple T.b_tuple (je_var 6)) (jk_cons (je_len T.b_len (je_var 1)) jk_nil))) (je_var 1) (nomark _))))) (js_one (js_ret je_bl)) js_nil)
    (js_cons (js_set (i := 8) (je_callD d_back hr hg (ja_cons (je_var 1) ja_nil)) sc_l_single_right.nd)
    (js_cons (js_if (jt_w (jw_or (jt_cmp (op_neD hr.units) ro_ne (je_callD d_l_behind hr hg (ja_cons (je_var 1) (ja_cons (je_var 8) ja_nil))) (je_callD d_l_still hr hg (ja_cons (je_len T.b_len (je_var 1)) ja_nil)) (nomark _)) (jw_or1 (jt_cmp (op_neD hr.units) ro_ne (je_callKD false d_back hr hg (jk_cons (je_var 8) jk_nil)) (je_var 1) (nomark _))))) (js_one (js_ret je_bl)) js_nil)
    (js_one (js_ret (je_and (je_cmp (op_eqD hr.units) ro_eq (je_callD d_kind_of hr hg (ja_cons (je_var 8) ja_nil)) (je_at (je_var 5) je_int) (nomark _)) (je_and (je_cmp (op_eqD hr.units) ro_eq (je_callD d_rings hr hg (ja_cons (je_var 8) ja_nil)) (je_callD d_l_loops hr hg (ja_cons (je_var 8) ja_nil)) (nomark _)) (je_one (je_cmp op_gtB ro_gt (je_callD d_how_many_turns hr hg (ja_cons (je_at (je_var 5) je_int) ja_nil)) je_int (nomark _)))))))))))))))))
abbrev s_l_right : Stmt := top 53
theorem sc_l_right : FnScope ["_law_cup_here", "_law_many_here", "_law_some", "_law_spin_here", "_law_now", "_law_row", "_law_lap"] ["_law_cup_here"] (defScope s_l_right) := ⟨rfl, rfl, rfl, by decide +kernel, rfl, by decide +kernel, by decide +kernel⟩
theorem ok_l_right (T : Txt K mg) (R : Raw K mg "_law_right" s_l_right ["_law_cup_here"]) (d_l_many : Df P w K mg base "_law_many" 3 ["_law_cup_here"] (spC K Pg.f_l_many)) (d_l_spin : Df P w K mg base "_law_spin" 2 ["_law_cup_here", "_law_many_here"] (spC K Pg.f_l_spin)) (d_l_single_right : Df P w K mg base "_law_single_right" 6 ["_law_cup_here", "_law_spin_here"] (spC K Pg.f_l_single_right_k02)) (d_l_pairs_right : Df P w K mg base "_law_pairs_right" 7 ["_law_near", "_law_far", "_law_third"] (spP K Pg.f_l_pairs_right_k02)) (d_back : Df P w K mg base "back" 5 ["turn"] (spP K Pg.f_back)) (d_l_still : Df P w K mg base "_law_still" 1 ["_law_many_here"] (spP K Pg.f_l_still)) (d_l_sip : Df P w K mg base "_law_sip" 1 ["_law_cup_here", "_law_top"] (spC K f_l_sip)) (d_l_of : Df P w K mg base "_law_of" 2 ["_law_cup_here", "_law_things"] (spC K f_l_of)) (d_then : Df P w K mg base "then" 6 ["one", "other"] (spP K Pg.f_then)) (d_moved : Df P w K mg base "moved" 5 ["turn"] (spP K Pg.f_moved)) (d_kind_of : Df P w K mg base "kind_of" 5 ["turn"] (spP K Pg.f_kind_of)) : Df P w K mg base "_law_right" 8 ["_law_cup_here"] (spC K Pg.f_l_right_k02) :=
  dfC (ss := Pg.ss_l_right_k02) R sc_l_right (by decide) fun f c cdv A outer s H E hr hg => 
    (js_cons (js_set (i := 1) (je_callCD 0 d_l_many hr hg ja_nil) sc_l_right.nd)
    (js_cons (js_set (i := 2) (je_lc sc_l_right.nd (ji_range1 T.b_range (ja_cons je_int ja_nil)) (own := [("_law_lap", 6)]) (show BlkOk ["_law_cup_here", "_law_many_here", "_law_some", "_law_spin_here", "_law_now", "_law_row", "_law_lap"] (defScope s_l_right) _ [("_law_lap", 6)] from ⟨rfl, by decide +kernel, by decide +kernel, by decide +kernel, by decide +kernel⟩) (fun _ _ _ _ _ => pg_name (i := 6) sc_l_right.nd rfl (by first | exact Or.inl rfl | exact Or.inr rfl) (by first | exact .inl rfl | exact .inr rfl)) (gok_name (vs := [6]) (i := 6) (by decide) _) (fun _ _ _ _ _ => jts_nil) (fun _ _ _ _ _ => (je_callCD 0 d_l_spin hr hg (ja_cons (je_var 1) ja_nil)))) sc_l_right.nd)
    (js_cons (js_if (jt_not (jt_val (je_all T.b_all (je_lc sc_l_right.nd (ji_seq (je_var 2)) (own := [("_law_spin_here", 3)]) (show BlkOk ["_law_cup_here", "_law_many_here", "_law_some", "_law_spin_here", "_law_now", "_law_row", "_law_lap"] (defScope s_l_right) _ [("_law_spin_here", 3)] from ⟨rfl, by decide +kernel, by decide +kernel, by decide +kernel, by decide +kernel⟩) (fun _ _ _ _ _ => pg_name (i := 3) sc_l_right.nd rfl (by first | exact Or.inl rfl | exact Or.inr rfl) (by first | exact .inl rfl | exact .inr rfl)) (gok_name (vs := [3]) (i := 3) (by decide) _) (fun _ _ _ _ _ => jts_nil) (fun _ _ _ _ _ => (je_callCD 0 d_l_single_right hr hg (ja_cons (je_var 3) ja_nil))))))) (js_one (js_ret je_bl)) js_nil)
    (js_cons (js_if (jt_w (jw_or (jt_not (jt_val (je_callD d_l_pairs_right hr hg (ja_cons (je_at (je_var 2) je_int) (ja_cons (je_at (je_var 2) je_int) (ja_cons (je_at (je_var 2) je_int) ja_nil)))))) (jw_or1 (jt_not (jt_val (je_callD d_l_pairs_right hr hg (ja_cons (je_at (je_var 2) je_int) (ja_cons (je_callD d_back hr hg (ja_cons (je_at (je_var 2) je_int) ja_nil)) (ja_cons (je_at (je_var 2) je_int) ja_nil))))))))) (js_one (js_ret je_bl)) js_nil)
    (js_cons (js_par (ps_par rfl sc_l_right.nd rfl rfl (by decide) rfl rfl (pa_cons (je_callD d_l_still hr hg (ja_cons (je_var 1) ja_nil)) (pa_cons (je_lc sc_l_right.nd (ji_range1 T.b_range (ja_cons (je_callCD 0 d_l_sip hr hg (ja_cons je_int ja_nil)) ja_nil)) (own := [("_law_lap", 6)]) (show BlkOk ["_law_cup_here", "_law_many_here", "_law_some", "_law_spin_here", "_law_now", "_law_row", "_law_lap"] (defScope s_l_right) _ [("_law_lap", 6)] from ⟨rfl, by decide +kernel, by decide +kernel, by decide +kernel, by decide +kernel⟩) (fun _ _ _ _ _ => pg_name (i := 6) sc_l_right.nd rfl (by first | exact Or.inl rfl | exact Or.inr rfl) (by first | exact .inl rfl | exact .inr rfl)) (gok_name (vs := [6]) (i := 6) (by decide) _) (fun _ _ _ _ _ => jts_nil) (fun _ _ _ _ _ => (je_callCD 0 d_l_of hr hg (ja_cons (je_var 2) ja_nil)))) pa_nil)) rfl))
    (js_cons (js_for PassesOwn.never (ji_seq (je_var 5)) (jg_name (i := 3) sc_l_right.nd) (js_one (js_set (i := 4) (je_callD d_then hr hg (ja_cons (je_var 4) (ja_cons (je_var 3) ja_nil))) sc_l_right.nd)))
    (js_cons (js_for PassesOwn.never (ji_seq (je_rev (je_var 5))) (jg_name (i := 3) sc_l_right.nd) (js_one (js_set (i := 4) (je_callD d_then hr hg (ja_cons (je_var 4) (ja_cons (je_callD d_back hr hg (ja_cons (je_var 3) ja_nil)) ja_nil))) sc_l_right.nd)))
    (js_one (js_ret (je_and (je_cmp (op_eqD hr.units) ro_eq (je_var 4) (je_callD d_l_still hr hg (ja_cons (je_var 1) ja_nil)) (nomark _)) (je_and (je_cmp (op_eqD hr.units) ro_eq (je_callD d_moved hr hg (ja_cons (je_var 4) ja_nil)) (je_tup ja_nil) (nomark _)) (je_one (je_cmp (op_eqD hr.units) ro_eq (je_callD d_kind_of hr hg (ja_cons (je_var 4) ja_nil)) (je_mul (je_tup (ja_cons je_int ja_nil)) (je_var 1)) (nomark _))))))))))))))
abbrev s_l_cup : Stmt := top 41
theorem sc_l_cup : FnScope ["_law_cells", "_law_k", "_law_cell", "_law_stirred", "_law_each"] ["_law_cells", "_law_k"] (defScope s_l_cup) := ⟨rfl, rfl, rfl, by decide +kernel, rfl, by decide +kernel, by decide +kernel⟩
theorem ok_l_cup (T : Txt K mg) (R : Raw K mg "_law_cup" s_l_cup ["_law_cells", "_law_k"]) : Df P w K mg base "_law_cup" 1 ["_law_cells", "_law_k"] (spN K f_l_cup) :=
  dfN (ss := ss_l_cup) (se := se_l_cup) R sc_l_cup fun f cdv A outer s H E hr hg => 
    (jl_cons (E := EN) (js_set (i := 2) (je_if (jt_cmp op_lt ro_lt (je_var 1) (je_len T.b_len (je_var 0)) (nomark _)) (je_intc T.b_int (je_at (je_var 0) (je_var 1))) (je_add (je_mul je_int (je_var 1)) je_int)) sc_l_cup.nd)
    (jl_cons (E := EN) (js_set (i := 3) (je_add je_int (je_mul je_int (je_var 1))) sc_l_cup.nd)
    (jl_cons (E := EN) (js_for PassesOwn.never (ji_seq (je_add (je_sl (je_var 0) jo_none (jo_some je_int)) (je_lst (ja_cons (je_var 2) ja_nil)))) (jg_name (i := 4) sc_l_cup.nd) (js_one (js_set (i := 3) (je_mod (je_intc T.b_int (je_add (je_mul (je_var 3) je_int) (je_intc T.b_int (je_var 4)))) je_int) sc_l_cup.nd)))
    (jl_ret (E := EN) (je_lst (ja_cons (je_if (jt_w (jw_or (jt_cmp op_lt ro_lt (je_var 2) je_int (nomark _)) (jw_or1 (jt_cmp op_ge ro_ge (je_var 2) (je_pow je_int je_int) (nomark _))))) (je_abs T.b_abs (je_var 2)) je_int) (ja_cons (je_var 3) (ja_cons je_int ja_nil))))))))
abbrev s_law : Stmt := top 54
theorem sc_law : FnScope ["_law_cells", "_law_k"] ["_law_cells"] (defScope s_law) := ⟨rfl, rfl, rfl, by decide +kernel, rfl, by decide +kernel, by decide +kernel⟩
theorem ok_law (T : Txt K mg) {f : Addr} {fd : FuncData} (F : Fun K "law" "law" s_law f fd) (d_l_cup : Df P w K mg base "_law_cup" 1 ["_law_cells", "_law_k"] (spN K f_l_cup)) (d_l_right : Df P w K mg base "_law_right" 8 ["_law_cup_here"] (spC K Pg.f_l_right_k02)) : FnG P w K mg base CX0 9 f fd ["_law_cells"] (spP K (f_law Pg.f_l_right_k02)) :=
  fnP (ss := ss_law Pg.f_l_right_k02) F sc_law fun cdv A outer s H E hr hg =>
    (js_one (js_ret (je_all T.b_all (je_lc sc_law.nd (ji_range1 T.b_range (ja_cons (je_max2 T.b_max je_int (je_min2 T.b_min (je_len T.b_len (je_var 0)) je_int)) ja_nil)) (own := [("_law_k", 1)]) (show BlkOk ["_law_cells", "_law_k"] (defScope s_law) _ [("_law_k", 1)] from ⟨rfl, by decide +kernel, by decide +kernel, by decide +kernel, by decide +kernel⟩) (fun _ _ _ _ _ => pg_name (i := 1) sc_law.nd rfl (by first | exact Or.inl rfl | exact Or.inr rfl) (by first | exact .inl rfl | exact .inr rfl)) (gok_name (vs := [1]) (i := 1) (by decide) _) (fun _ _ _ _ _ => jts_nil) (fun _ _ _ _ _ => (je_cupcallD d_l_cup d_l_right hr hg (ja_cons (je_var 0) (ja_cons (je_var 1) ja_nil))))))))
theorem all_mk {l : PySem.W.OpenLaw} {w : World} {K : PySem.W.Frag} {h : Heap} {mg : Str → Option Value} {fa f0 f1 f2 f3 f4 f5 f6 f7 f8 f9 f10 f11 f12 f13 f14 f15 f16 f17 f18 f19 f20 f21 f22 f23 f24 f25 f26 f27 f28 f29 f30 f31 f32 f33 f34 f35 f36 f37 f38 f39 f40 : Addr} (X : K.In h) (G : h.Ns mainGlobals mg) (hfa : mg "law" = some (.ref fa))
    {od0 an0 : Option Addr} {sl0 : Array (Option Value)} {oc0 kV0 dc0 pm0 cd0 ct0 : Value}
    (a0 : PySem.W.nsIn K mainGlobals "_law_sip" = some (some (.ref f0))) (l0 : K.lookup f0 = some ⟨oc0, od0, .func (PySem.W.fnOf "_law_sip" "_law_sip" (defArgs s_l_sip) (defBody s_l_sip) (defScope s_l_sip) .none kV0 dc0 pm0 an0 cd0 ct0), sl0⟩) (c0 : PySem.W.codeIn K cd0 "_law_sip" = true) (k0 : PySem.W.keepIn K (.ref f0) = true)
    {od1 an1 : Option Addr} {sl1 : Array (Option Value)} {oc1 kV1 dc1 pm1 cd1 ct1 : Value}
    (a1 : PySem.W.nsIn K mainGlobals "_law_of" = some (some (.ref f1))) (l1 : K.lookup f1 = some ⟨oc1, od1, .func (PySem.W.fnOf "_law_of" "_law_of" (defArgs s_l_of) (defBody s_l_of) (defScope s_l_of) .none kV1 dc1 pm1 an1 cd1 ct1), sl1⟩) (c1 : PySem.W.codeIn K cd1 "_law_of" = true) (k1 : PySem.W.keepIn K (.ref f1) = true)
    {od2 an2 : Option Addr} {sl2 : Array (Option Value)} {oc2 kV2 dc2 pm2 cd2 ct2 : Value}
    (a2 : PySem.W.nsIn K mainGlobals "_law_many" = some (some (.ref f2))) (l2 : K.lookup f2 = some ⟨oc2, od2, .func (PySem.W.fnOf "_law_many" "_law_many" (defArgs s_l_many) (defBody s_l_many) (defScope s_l_many) .none kV2 dc2 pm2 an2 cd2 ct2), sl2⟩) (c2 : PySem.W.codeIn K cd2 "_law_many" = true) (k2 : PySem.W.keepIn K (.ref f2) = true)
    {od3 an3 : Option Addr} {sl3 : Array (Option Value)} {oc3 kV3 dc3 pm3 cd3 ct3 : Value}
    (a3 : PySem.W.nsIn K mainGlobals "_law_spin" = some (some (.ref f3))) (l3 : K.lookup f3 = some ⟨oc3, od3, .func (PySem.W.fnOf "_law_spin" "_law_spin" (defArgs s_l_spin) (defBody s_l_spin) (defScope s_l_spin) .none kV3 dc3 pm3 an3 cd3 ct3), sl3⟩) (c3 : PySem.W.codeIn K cd3 "_law_spin" = true) (k3 : PySem.W.keepIn K (.ref f3) = true)
    {od4 an4 : Option Addr} {sl4 : Array (Option Value)} {oc4 kV4 dc4 pm4 cd4 ct4 : Value}
    (a4 : PySem.W.nsIn K mainGlobals "_law_still" = some (some (.ref f4))) (l4 : K.lookup f4 = some ⟨oc4, od4, .func (PySem.W.fnOf "_law_still" "_law_still" (defArgs s_l_still) (defBody s_l_still) (defScope s_l_still) .none kV4 dc4 pm4 an4 cd4 ct4), sl4⟩) (c4 : PySem.W.codeIn K cd4 "_law_still" = true) (k4 : PySem.W.keepIn K (.ref f4) = true)
    {od5 an5 : Option Addr} {sl5 : Array (Option Value)} {oc5 kV5 dc5 pm5 cd5 ct5 : Value}
    (a5 : PySem.W.nsIn K mainGlobals "is_integer" = some (some (.ref f5))) (l5 : K.lookup f5 = some ⟨oc5, od5, .func (PySem.W.fnOf "is_integer" "is_integer" (defArgs s_is_integer) (defBody s_is_integer) (defScope s_is_integer) .none kV5 dc5 pm5 an5 cd5 ct5), sl5⟩) (c5 : PySem.W.codeIn K cd5 "is_integer" = true) (k5 : PySem.W.keepIn K (.ref f5) = true)
    {od6 an6 : Option Addr} {sl6 : Array (Option Value)} {oc6 kV6 dc6 pm6 cd6 ct6 : Value}
    (a6 : PySem.W.nsIn K mainGlobals "are_unlike_places" = some (some (.ref f6))) (l6 : K.lookup f6 = some ⟨oc6, od6, .func (PySem.W.fnOf "are_unlike_places" "are_unlike_places" (defArgs s_are_unlike_places) (defBody s_are_unlike_places) (defScope s_are_unlike_places) .none kV6 dc6 pm6 an6 cd6 ct6), sl6⟩) (c6 : PySem.W.codeIn K cd6 "are_unlike_places" = true) (k6 : PySem.W.keepIn K (.ref f6) = true)
    {od7 an7 : Option Addr} {sl7 : Array (Option Value)} {oc7 kV7 dc7 pm7 cd7 ct7 : Value}
    (a7 : PySem.W.nsIn K mainGlobals "is_turn" = some (some (.ref f7))) (l7 : K.lookup f7 = some ⟨oc7, od7, .func (PySem.W.fnOf "is_turn" "is_turn" (defArgs s_is_turn) (defBody s_is_turn) (defScope s_is_turn) .none kV7 dc7 pm7 an7 cd7 ct7), sl7⟩) (c7 : PySem.W.codeIn K cd7 "is_turn" = true) (k7 : PySem.W.keepIn K (.ref f7) = true)
    {od8 an8 : Option Addr} {sl8 : Array (Option Value)} {oc8 kV8 dc8 pm8 cd8 ct8 : Value}
    (a8 : PySem.W.nsIn K mainGlobals "check_turn" = some (some (.ref f8))) (l8 : K.lookup f8 = some ⟨oc8, od8, .func (PySem.W.fnOf "check_turn" "check_turn" (defArgs s_check_turn) (defBody s_check_turn) (defScope s_check_turn) .none kV8 dc8 pm8 an8 cd8 ct8), sl8⟩) (c8 : PySem.W.codeIn K cd8 "check_turn" = true) (k8 : PySem.W.keepIn K (.ref f8) = true)
    {od9 an9 : Option Addr} {sl9 : Array (Option Value)} {oc9 kV9 dc9 pm9 cd9 ct9 : Value}
    (a9 : PySem.W.nsIn K mainGlobals "check_two_turns" = some (some (.ref f9))) (l9 : K.lookup f9 = some ⟨oc9, od9, .func (PySem.W.fnOf "check_two_turns" "check_two_turns" (defArgs s_check_two_turns) (defBody s_check_two_turns) (defScope s_check_two_turns) .none kV9 dc9 pm9 an9 cd9 ct9), sl9⟩) (c9 : PySem.W.codeIn K cd9 "check_two_turns" = true) (k9 : PySem.W.keepIn K (.ref f9) = true)
    {od10 an10 : Option Addr} {sl10 : Array (Option Value)} {oc10 kV10 dc10 pm10 cd10 ct10 : Value}
    (a10 : PySem.W.nsIn K mainGlobals "one_then" = some (some (.ref f10))) (l10 : K.lookup f10 = some ⟨oc10, od10, .func (PySem.W.fnOf "one_then" "one_then" (defArgs s_one_then) (defBody s_one_then) (defScope s_one_then) .none kV10 dc10 pm10 an10 cd10 ct10), sl10⟩) (c10 : PySem.W.codeIn K cd10 "one_then" = true) (k10 : PySem.W.keepIn K (.ref f10) = true)
    {od11 an11 : Option Addr} {sl11 : Array (Option Value)} {oc11 kV11 dc11 pm11 cd11 ct11 : Value}
    (a11 : PySem.W.nsIn K mainGlobals "then" = some (some (.ref f11))) (l11 : K.lookup f11 = some ⟨oc11, od11, .func (PySem.W.fnOf "then" "then" (defArgs s_then) (defBody s_then) (defScope s_then) .none kV11 dc11 pm11 an11 cd11 ct11), sl11⟩) (c11 : PySem.W.codeIn K cd11 "then" = true) (k11 : PySem.W.keepIn K (.ref f11) = true)
    {od12 an12 : Option Addr} {sl12 : Array (Option Value)} {oc12 kV12 dc12 pm12 cd12 ct12 : Value}
    (a12 : PySem.W.nsIn K mainGlobals "led_back" = some (some (.ref f12))) (l12 : K.lookup f12 = some ⟨oc12, od12, .func (PySem.W.fnOf "led_back" "led_back" (defArgs s_led_back) (defBody s_led_back) (defScope s_led_back) .none kV12 dc12 pm12 an12 cd12 ct12), sl12⟩) (c12 : PySem.W.codeIn K cd12 "led_back" = true) (k12 : PySem.W.keepIn K (.ref f12) = true)
    {od13 an13 : Option Addr} {sl13 : Array (Option Value)} {oc13 kV13 dc13 pm13 cd13 ct13 : Value}
    (a13 : PySem.W.nsIn K mainGlobals "renamed_by" = some (some (.ref f13))) (l13 : K.lookup f13 = some ⟨oc13, od13, .func (PySem.W.fnOf "renamed_by" "renamed_by" (defArgs s_renamed_by) (defBody s_renamed_by) (defScope s_renamed_by) .none kV13 dc13 pm13 an13 cd13 ct13), sl13⟩) (c13 : PySem.W.codeIn K cd13 "renamed_by" = true) (k13 : PySem.W.keepIn K (.ref f13) = true)
    {od14 an14 : Option Addr} {sl14 : Array (Option Value)} {oc14 kV14 dc14 pm14 cd14 ct14 : Value}
    (a14 : PySem.W.nsIn K mainGlobals "turned_by" = some (some (.ref f14))) (l14 : K.lookup f14 = some ⟨oc14, od14, .func (PySem.W.fnOf "turned_by" "turned_by" (defArgs s_turned_by) (defBody s_turned_by) (defScope s_turned_by) .none kV14 dc14 pm14 an14 cd14 ct14), sl14⟩) (c14 : PySem.W.codeIn K cd14 "turned_by" = true) (k14 : PySem.W.keepIn K (.ref f14) = true)
    {od15 an15 : Option Addr} {sl15 : Array (Option Value)} {oc15 kV15 dc15 pm15 cd15 ct15 : Value}
    (a15 : PySem.W.nsIn K mainGlobals "_law_behind" = some (some (.ref f15))) (l15 : K.lookup f15 = some ⟨oc15, od15, .func (PySem.W.fnOf "_law_behind" "_law_behind" (defArgs s_l_behind) (defBody s_l_behind) (defScope s_l_behind) .none kV15 dc15 pm15 an15 cd15 ct15), sl15⟩) (c15 : PySem.W.codeIn K cd15 "_law_behind" = true) (k15 : PySem.W.keepIn K (.ref f15) = true)
    {od16 an16 : Option Addr} {sl16 : Array (Option Value)} {oc16 kV16 dc16 pm16 cd16 ct16 : Value}
    (a16 : PySem.W.nsIn K mainGlobals "rings_in" = some (some (.ref f16))) (l16 : K.lookup f16 = some ⟨oc16, od16, .func (PySem.W.fnOf "rings_in" "rings_in" (defArgs s_rings_in) (defBody s_rings_in) (defScope s_rings_in) .none kV16 dc16 pm16 an16 cd16 ct16), sl16⟩) (c16 : PySem.W.codeIn K cd16 "rings_in" = true) (k16 : PySem.W.keepIn K (.ref f16) = true)
    {od17 an17 : Option Addr} {sl17 : Array (Option Value)} {oc17 kV17 dc17 pm17 cd17 ct17 : Value}
    (a17 : PySem.W.nsIn K mainGlobals "kind_in" = some (some (.ref f17))) (l17 : K.lookup f17 = some ⟨oc17, od17, .func (PySem.W.fnOf "kind_in" "kind_in" (defArgs s_kind_in) (defBody s_kind_in) (defScope s_kind_in) .none kV17 dc17 pm17 an17 cd17 ct17), sl17⟩) (c17 : PySem.W.codeIn K cd17 "kind_in" = true) (k17 : PySem.W.keepIn K (.ref f17) = true)
    {od18 an18 : Option Addr} {sl18 : Array (Option Value)} {oc18 kV18 dc18 pm18 cd18 ct18 : Value}
    (a18 : PySem.W.nsIn K mainGlobals "kind_of" = some (some (.ref f18))) (l18 : K.lookup f18 = some ⟨oc18, od18, .func (PySem.W.fnOf "kind_of" "kind_of" (defArgs s_kind_of) (defBody s_kind_of) (defScope s_kind_of) .none kV18 dc18 pm18 an18 cd18 ct18), sl18⟩) (c18 : PySem.W.codeIn K cd18 "kind_of" = true) (k18 : PySem.W.keepIn K (.ref f18) = true)
    {od19 an19 : Option Addr} {sl19 : Array (Option Value)} {oc19 kV19 dc19 pm19 cd19 ct19 : Value}
    (a19 : PySem.W.nsIn K mainGlobals "is_even_turn" = some (some (.ref f19))) (l19 : K.lookup f19 = some ⟨oc19, od19, .func (PySem.W.fnOf "is_even_turn" "is_even_turn" (defArgs s_is_even_turn) (defBody s_is_even_turn) (defScope s_is_even_turn) .none kV19 dc19 pm19 an19 cd19 ct19), sl19⟩) (c19 : PySem.W.codeIn K cd19 "is_even_turn" = true) (k19 : PySem.W.keepIn K (.ref f19) = true)
    {od20 an20 : Option Addr} {sl20 : Array (Option Value)} {oc20 kV20 dc20 pm20 cd20 ct20 : Value}
    (a20 : PySem.W.nsIn K mainGlobals "is_even" = some (some (.ref f20))) (l20 : K.lookup f20 = some ⟨oc20, od20, .func (PySem.W.fnOf "is_even" "is_even" (defArgs s_is_even) (defBody s_is_even) (defScope s_is_even) .none kV20 dc20 pm20 an20 cd20 ct20), sl20⟩) (c20 : PySem.W.codeIn K cd20 "is_even" = true) (k20 : PySem.W.keepIn K (.ref f20) = true)
    {od21 an21 : Option Addr} {sl21 : Array (Option Value)} {oc21 kV21 dc21 pm21 cd21 ct21 : Value}
    (a21 : PySem.W.nsIn K mainGlobals "back" = some (some (.ref f21))) (l21 : K.lookup f21 = some ⟨oc21, od21, .func (PySem.W.fnOf "back" "back" (defArgs s_back) (defBody s_back) (defScope s_back) .none kV21 dc21 pm21 an21 cd21 ct21), sl21⟩) (c21 : PySem.W.codeIn K cd21 "back" = true) (k21 : PySem.W.keepIn K (.ref f21) = true)
    {od22 an22 : Option Addr} {sl22 : Array (Option Value)} {oc22 kV22 dc22 pm22 cd22 ct22 : Value}
    (a22 : PySem.W.nsIn K mainGlobals "goes_with" = some (some (.ref f22))) (l22 : K.lookup f22 = some ⟨oc22, od22, .func (PySem.W.fnOf "goes_with" "goes_with" (defArgs s_goes_with) (defBody s_goes_with) (defScope s_goes_with) .none kV22 dc22 pm22 an22 cd22 ct22), sl22⟩) (c22 : PySem.W.codeIn K cd22 "goes_with" = true) (k22 : PySem.W.keepIn K (.ref f22) = true)
    {od23 an23 : Option Addr} {sl23 : Array (Option Value)} {oc23 kV23 dc23 pm23 cd23 ct23 : Value}
    (a23 : PySem.W.nsIn K mainGlobals "commutes" = some (some (.ref f23))) (l23 : K.lookup f23 = some ⟨oc23, od23, .func (PySem.W.fnOf "commutes" "commutes" (defArgs s_commutes) (defBody s_commutes) (defScope s_commutes) .none kV23 dc23 pm23 an23 cd23 ct23), sl23⟩) (c23 : PySem.W.codeIn K cd23 "commutes" = true) (k23 : PySem.W.keepIn K (.ref f23) = true)
    {od24 an24 : Option Addr} {sl24 : Array (Option Value)} {oc24 kV24 dc24 pm24 cd24 ct24 : Value}
    (a24 : PySem.W.nsIn K mainGlobals "rings" = some (some (.ref f24))) (l24 : K.lookup f24 = some ⟨oc24, od24, .func (PySem.W.fnOf "rings" "rings" (defArgs s_rings) (defBody s_rings) (defScope s_rings) .none kV24 dc24 pm24 an24 cd24 ct24), sl24⟩) (c24 : PySem.W.codeIn K cd24 "rings" = true) (k24 : PySem.W.keepIn K (.ref f24) = true)
    {od25 an25 : Option Addr} {sl25 : Array (Option Value)} {oc25 kV25 dc25 pm25 cd25 ct25 : Value}
    (a25 : PySem.W.nsIn K mainGlobals "_law_pairs_right" = some (some (.ref f25))) (l25 : K.lookup f25 = some ⟨oc25, od25, .func (PySem.W.fnOf "_law_pairs_right" "_law_pairs_right" (defArgs s_l_pairs_right) (defBody s_l_pairs_right) (defScope s_l_pairs_right) .none kV25 dc25 pm25 an25 cd25 ct25), sl25⟩) (c25 : PySem.W.codeIn K cd25 "_law_pairs_right" = true) (k25 : PySem.W.keepIn K (.ref f25) = true)
    {od26 an26 : Option Addr} {sl26 : Array (Option Value)} {oc26 kV26 dc26 pm26 cd26 ct26 : Value}
    (a26 : PySem.W.nsIn K mainGlobals "moved" = some (some (.ref f26))) (l26 : K.lookup f26 = some ⟨oc26, od26, .func (PySem.W.fnOf "moved" "moved" (defArgs s_moved) (defBody s_moved) (defScope s_moved) .none kV26 dc26 pm26 an26 cd26 ct26), sl26⟩) (c26 : PySem.W.codeIn K cd26 "moved" = true) (k26 : PySem.W.keepIn K (.ref f26) = true)
    {od27 an27 : Option Addr} {sl27 : Array (Option Value)} {oc27 kV27 dc27 pm27 cd27 ct27 : Value}
    (a27 : PySem.W.nsIn K mainGlobals "_law_loops" = some (some (.ref f27))) (l27 : K.lookup f27 = some ⟨oc27, od27, .func (PySem.W.fnOf "_law_loops" "_law_loops" (defArgs s_l_loops) (defBody s_l_loops) (defScope s_l_loops) .none kV27 dc27 pm27 an27 cd27 ct27), sl27⟩) (c27 : PySem.W.codeIn K cd27 "_law_loops" = true) (k27 : PySem.W.keepIn K (.ref f27) = true)
    {od28 an28 : Option Addr} {sl28 : Array (Option Value)} {oc28 kV28 dc28 pm28 cd28 ct28 : Value}
    (a28 : PySem.W.nsIn K mainGlobals "_law_lens" = some (some (.ref f28))) (l28 : K.lookup f28 = some ⟨oc28, od28, .func (PySem.W.fnOf "_law_lens" "_law_lens" (defArgs s_l_lens) (defBody s_l_lens) (defScope s_l_lens) .none kV28 dc28 pm28 an28 cd28 ct28), sl28⟩) (c28 : PySem.W.codeIn K cd28 "_law_lens" = true) (k28 : PySem.W.keepIn K (.ref f28) = true)
    {od29 an29 : Option Addr} {sl29 : Array (Option Value)} {oc29 kV29 dc29 pm29 cd29 ct29 : Value}
    (a29 : PySem.W.nsIn K mainGlobals "check_number" = some (some (.ref f29))) (l29 : K.lookup f29 = some ⟨oc29, od29, .func (PySem.W.fnOf "check_number" "check_number" (defArgs s_check_number) (defBody s_check_number) (defScope s_check_number) .none kV29 dc29 pm29 an29 cd29 ct29), sl29⟩) (c29 : PySem.W.codeIn K cd29 "check_number" = true) (k29 : PySem.W.keepIn K (.ref f29) = true)
    {od30 an30 : Option Addr} {sl30 : Array (Option Value)} {oc30 kV30 dc30 pm30 cd30 ct30 : Value}
    (a30 : PySem.W.nsIn K mainGlobals "along" = some (some (.ref f30))) (l30 : K.lookup f30 = some ⟨oc30, od30, .func (PySem.W.fnOf "along" "along" (defArgs s_along) (defBody s_along) (defScope s_along) .none kV30 dc30 pm30 an30 cd30 ct30), sl30⟩) (c30 : PySem.W.codeIn K cd30 "along" = true) (k30 : PySem.W.keepIn K (.ref f30) = true)
    {od31 an31 : Option Addr} {sl31 : Array (Option Value)} {oc31 kV31 dc31 pm31 cd31 ct31 : Value}
    (a31 : PySem.W.nsIn K mainGlobals "are_rings" = some (some (.ref f31))) (l31 : K.lookup f31 = some ⟨oc31, od31, .func (PySem.W.fnOf "are_rings" "are_rings" (defArgs s_are_rings) (defBody s_are_rings) (defScope s_are_rings) .none kV31 dc31 pm31 an31 cd31 ct31), sl31⟩) (c31 : PySem.W.codeIn K cd31 "are_rings" = true) (k31 : PySem.W.keepIn K (.ref f31) = true)
    {od32 an32 : Option Addr} {sl32 : Array (Option Value)} {oc32 kV32 dc32 pm32 cd32 ct32 : Value}
    (a32 : PySem.W.nsIn K mainGlobals "turn_of" = some (some (.ref f32))) (l32 : K.lookup f32 = some ⟨oc32, od32, .func (PySem.W.fnOf "turn_of" "turn_of" (defArgs s_turn_of) (defBody s_turn_of) (defScope s_turn_of) .none kV32 dc32 pm32 an32 cd32 ct32), sl32⟩) (c32 : PySem.W.codeIn K cd32 "turn_of" = true) (k32 : PySem.W.keepIn K (.ref f32) = true)
    {od33 an33 : Option Addr} {sl33 : Array (Option Value)} {oc33 kV33 dc33 pm33 cd33 ct33 : Value}
    (a33 : PySem.W.nsIn K mainGlobals "is_kind" = some (some (.ref f33))) (l33 : K.lookup f33 = some ⟨oc33, od33, .func (PySem.W.fnOf "is_kind" "is_kind" (defArgs s_is_kind) (defBody s_is_kind) (defScope s_is_kind) .none kV33 dc33 pm33 an33 cd33 ct33), sl33⟩) (c33 : PySem.W.codeIn K cd33 "is_kind" = true) (k33 : PySem.W.keepIn K (.ref f33) = true)
    {od34 an34 : Option Addr} {sl34 : Array (Option Value)} {oc34 kV34 dc34 pm34 cd34 ct34 : Value}
    (a34 : PySem.W.nsIn K mainGlobals "check_kind" = some (some (.ref f34))) (l34 : K.lookup f34 = some ⟨oc34, od34, .func (PySem.W.fnOf "check_kind" "check_kind" (defArgs s_check_kind) (defBody s_check_kind) (defScope s_check_kind) .none kV34 dc34 pm34 an34 cd34 ct34), sl34⟩) (c34 : PySem.W.codeIn K cd34 "check_kind" = true) (k34 : PySem.W.keepIn K (.ref f34) = true)
    {od35 an35 : Option Addr} {sl35 : Array (Option Value)} {oc35 kV35 dc35 pm35 cd35 ct35 : Value}
    (a35 : PySem.W.nsIn K mainGlobals "how_many_turns" = some (some (.ref f35))) (l35 : K.lookup f35 = some ⟨oc35, od35, .func (PySem.W.fnOf "how_many_turns" "how_many_turns" (defArgs s_how_many_turns) (defBody s_how_many_turns) (defScope s_how_many_turns) .none kV35 dc35 pm35 an35 cd35 ct35), sl35⟩) (c35 : PySem.W.codeIn K cd35 "how_many_turns" = true) (k35 : PySem.W.keepIn K (.ref f35) = true)
    {od36 an36 : Option Addr} {sl36 : Array (Option Value)} {oc36 kV36 dc36 pm36 cd36 ct36 : Value}
    (a36 : PySem.W.nsIn K mainGlobals "_law_crossed" = some (some (.ref f36))) (l36 : K.lookup f36 = some ⟨oc36, od36, .func (PySem.W.fnOf "_law_crossed" "_law_crossed" (defArgs s_l_crossed) (defBody s_l_crossed) (defScope s_l_crossed) .none kV36 dc36 pm36 an36 cd36 ct36), sl36⟩) (c36 : PySem.W.codeIn K cd36 "_law_crossed" = true) (k36 : PySem.W.keepIn K (.ref f36) = true)
    {od37 an37 : Option Addr} {sl37 : Array (Option Value)} {oc37 kV37 dc37 pm37 cd37 ct37 : Value}
    (a37 : PySem.W.nsIn K mainGlobals "_law_single_right" = some (some (.ref f37))) (l37 : K.lookup f37 = some ⟨oc37, od37, .func (PySem.W.fnOf "_law_single_right" "_law_single_right" (defArgs s_l_single_right) (defBody s_l_single_right) (defScope s_l_single_right) .none kV37 dc37 pm37 an37 cd37 ct37), sl37⟩) (c37 : PySem.W.codeIn K cd37 "_law_single_right" = true) (k37 : PySem.W.keepIn K (.ref f37) = true)
    {od38 an38 : Option Addr} {sl38 : Array (Option Value)} {oc38 kV38 dc38 pm38 cd38 ct38 : Value}
    (a38 : PySem.W.nsIn K mainGlobals "_law_right" = some (some (.ref f38))) (l38 : K.lookup f38 = some ⟨oc38, od38, .func (PySem.W.fnOf "_law_right" "_law_right" (defArgs s_l_right) (defBody s_l_right) (defScope s_l_right) .none kV38 dc38 pm38 an38 cd38 ct38), sl38⟩) (c38 : PySem.W.codeIn K cd38 "_law_right" = true) (k38 : PySem.W.keepIn K (.ref f38) = true)
    {od39 an39 : Option Addr} {sl39 : Array (Option Value)} {oc39 kV39 dc39 pm39 cd39 ct39 : Value}
    (a39 : PySem.W.nsIn K mainGlobals "_law_cup" = some (some (.ref f39))) (l39 : K.lookup f39 = some ⟨oc39, od39, .func (PySem.W.fnOf "_law_cup" "_law_cup" (defArgs s_l_cup) (defBody s_l_cup) (defScope s_l_cup) .none kV39 dc39 pm39 an39 cd39 ct39), sl39⟩) (c39 : PySem.W.codeIn K cd39 "_law_cup" = true) (k39 : PySem.W.keepIn K (.ref f39) = true)
    {od40 an40 : Option Addr} {sl40 : Array (Option Value)} {oc40 kV40 dc40 pm40 cd40 ct40 : Value}
    (a40 : PySem.W.nsIn K mainGlobals "law" = some (some (.ref f40))) (l40 : K.lookup f40 = some ⟨oc40, od40, .func (PySem.W.fnOf "law" "law" (defArgs s_law) (defBody s_law) (defScope s_law) .none kV40 dc40 pm40 an40 cd40 ct40), sl40⟩) (c40 : PySem.W.codeIn K cd40 "law" = true) (k40 : PySem.W.keepIn K (.ref f40) = true)
    {t_MOST_PLACES : Tok} (g_MOST_PLACES : PySem.W.nsIn K mainGlobals "MOST_PLACES" = some (some (.int 24 t_MOST_PLACES)))
    (i_factorial : PySem.W.nsIn K mainGlobals "factorial" = some (some (.builtin "math.factorial")))
    (z_abs : PySem.W.nsIn K mainGlobals "abs" = some none)
    (z_all : PySem.W.nsIn K mainGlobals "all" = some none)
    (z_bool : PySem.W.nsIn K mainGlobals "bool" = some none)
    (z_divmod : PySem.W.nsIn K mainGlobals "divmod" = some none)
    (z_enumerate : PySem.W.nsIn K mainGlobals "enumerate" = some none)
    (z_int : PySem.W.nsIn K mainGlobals "int" = some none)
    (z_isinstance : PySem.W.nsIn K mainGlobals "isinstance" = some none)
    (z_len : PySem.W.nsIn K mainGlobals "len" = some none)
    (z_list : PySem.W.nsIn K mainGlobals "list" = some none)
    (z_max : PySem.W.nsIn K mainGlobals "max" = some none)
    (z_min : PySem.W.nsIn K mainGlobals "min" = some none)
    (z_range : PySem.W.nsIn K mainGlobals "range" = some none)
    (z_repr : PySem.W.nsIn K mainGlobals "repr" = some none)
    (z_set : PySem.W.nsIn K mainGlobals "set" = some none)
    (z_sorted : PySem.W.nsIn K mainGlobals "sorted" = some none)
    (z_sum : PySem.W.nsIn K mainGlobals "sum" = some none)
    (z_tuple : PySem.W.nsIn K mainGlobals "tuple" = some none)
    : ∃ fd : FuncData, (∀ (s : Shared) (u : Value), BindsTo s fd ⟨[u], []⟩ [("_law_cells", u)]) ∧ ∀ base : Heap, K.In base → base.Ns mainGlobals mg → FnG l.prog w K mg base CX0 9 fa fd ["_law_cells"] (spP K (f_law Pg.f_l_right_k02)) := by
  have e := hfa.symm.trans (PySem.W.mg_of X G a40)
  cases e
  have T : Txt K mg := ⟨PySem.W.mg_none_of X G z_abs, PySem.W.mg_none_of X G z_all, PySem.W.mg_none_of X G z_bool, PySem.W.mg_none_of X G z_divmod, PySem.W.mg_none_of X G z_enumerate, PySem.W.mg_none_of X G z_int, PySem.W.mg_none_of X G z_isinstance, PySem.W.mg_none_of X G z_len, PySem.W.mg_none_of X G z_list, PySem.W.mg_none_of X G z_max, PySem.W.mg_none_of X G z_min, PySem.W.mg_none_of X G z_range, PySem.W.mg_none_of X G z_repr, PySem.W.mg_none_of X G z_set, PySem.W.mg_none_of X G z_sorted, PySem.W.mg_none_of X G z_sum, PySem.W.mg_none_of X G z_tuple, ⟨_, PySem.W.mg_of X G g_MOST_PLACES⟩, PySem.W.mg_of X G i_factorial⟩
  have R0 : Raw K mg "_law_sip" s_l_sip ["_law_cup_here", "_law_top"] := raw_mk X G (fun _ _ _ _ _ _ us hl => match us, hl with | [_, _], _ => rfl) (fun _ _ _ _ _ _ t ws hl => match t, ws, hl with | true, [_, _], _ => rfl | false, [_, _], _ => rfl) a0 l0 c0 k0
  have R1 : Raw K mg "_law_of" s_l_of ["_law_cup_here", "_law_things"] := raw_mk X G (fun _ _ _ _ _ _ us hl => match us, hl with | [_, _], _ => rfl) (fun _ _ _ _ _ _ t ws hl => match t, ws, hl with | true, [_, _], _ => rfl | false, [_, _], _ => rfl) a1 l1 c1 k1
  have R2 : Raw K mg "_law_many" s_l_many ["_law_cup_here"] := raw_mk X G (fun _ _ _ _ _ _ us hl => match us, hl with | [_], _ => rfl) (fun _ _ _ _ _ _ t ws hl => match t, ws, hl with | true, [_], _ => rfl | false, [_], _ => rfl) a2 l2 c2 k2
  have R3 : Raw K mg "_law_spin" s_l_spin ["_law_cup_here", "_law_many_here"] := raw_mk X G (fun _ _ _ _ _ _ us hl => match us, hl with | [_, _], _ => rfl) (fun _ _ _ _ _ _ t ws hl => match t, ws, hl with | true, [_, _], _ => rfl | false, [_, _], _ => rfl) a3 l3 c3 k3
  have R4 : Raw K mg "_law_still" s_l_still ["_law_many_here"] := raw_mk X G (fun _ _ _ _ _ _ us hl => match us, hl with | [_], _ => rfl) (fun _ _ _ _ _ _ t ws hl => match t, ws, hl with | true, [_], _ => rfl | false, [_], _ => rfl) a4 l4 c4 k4
  have R5 : Raw K mg "is_integer" s_is_integer ["given", "least", "most"] := raw_mk X G (fun _ _ _ _ _ _ us hl => match us, hl with | [_, _, _], _ => rfl) (fun _ _ _ _ _ _ t ws hl => match t, ws, hl with | true, [_, _, _], _ => rfl | false, [_, _, _], _ => rfl) a5 l5 c5 k5
  have R6 : Raw K mg "are_unlike_places" s_are_unlike_places ["places", "size"] := raw_mk X G (fun _ _ _ _ _ _ us hl => match us, hl with | [_, _], _ => rfl) (fun _ _ _ _ _ _ t ws hl => match t, ws, hl with | true, [_, _], _ => rfl | false, [_, _], _ => rfl) a6 l6 c6 k6
  have R7 : Raw K mg "is_turn" s_is_turn ["given"] := raw_mk X G (fun _ _ _ _ _ _ us hl => match us, hl with | [_], _ => rfl) (fun _ _ _ _ _ _ t ws hl => match t, ws, hl with | true, [_], _ => rfl | false, [_], _ => rfl) a7 l7 c7 k7
  have R8 : Raw K mg "check_turn" s_check_turn ["given"] := raw_mk X G (fun _ _ _ _ _ _ us hl => match us, hl with | [_], _ => rfl) (fun _ _ _ _ _ _ t ws hl => match t, ws, hl with | true, [_], _ => rfl | false, [_], _ => rfl) a8 l8 c8 k8
  have R9 : Raw K mg "check_two_turns" s_check_two_turns ["one", "other"] := raw_mk X G (fun _ _ _ _ _ _ us hl => match us, hl with | [_, _], _ => rfl) (fun _ _ _ _ _ _ t ws hl => match t, ws, hl with | true, [_, _], _ => rfl | false, [_, _], _ => rfl) a9 l9 c9 k9
  have R10 : Raw K mg "one_then" s_one_then ["one", "other"] := raw_mk X G (fun _ _ _ _ _ _ us hl => match us, hl with | [_, _], _ => rfl) (fun _ _ _ _ _ _ t ws hl => match t, ws, hl with | true, [_, _], _ => rfl | false, [_, _], _ => rfl) a10 l10 c10 k10
  have R11 : Raw K mg "then" s_then ["one", "other"] := raw_mk X G (fun _ _ _ _ _ _ us hl => match us, hl with | [_, _], _ => rfl) (fun _ _ _ _ _ _ t ws hl => match t, ws, hl with | true, [_, _], _ => rfl | false, [_, _], _ => rfl) a11 l11 c11 k11
  have R12 : Raw K mg "led_back" s_led_back ["turn"] := raw_mk X G (fun _ _ _ _ _ _ us hl => match us, hl with | [_], _ => rfl) (fun _ _ _ _ _ _ t ws hl => match t, ws, hl with | true, [_], _ => rfl | false, [_], _ => rfl) a12 l12 c12 k12
  have R13 : Raw K mg "renamed_by" s_renamed_by ["turn", "other"] := raw_mk X G (fun _ _ _ _ _ _ us hl => match us, hl with | [_, _], _ => rfl) (fun _ _ _ _ _ _ t ws hl => match t, ws, hl with | true, [_, _], _ => rfl | false, [_, _], _ => rfl) a13 l13 c13 k13
  have R14 : Raw K mg "turned_by" s_turned_by ["turn", "other"] := raw_mk X G (fun _ _ _ _ _ _ us hl => match us, hl with | [_, _], _ => rfl) (fun _ _ _ _ _ _ t ws hl => match t, ws, hl with | true, [_, _], _ => rfl | false, [_, _], _ => rfl) a14 l14 c14 k14
  have R15 : Raw K mg "_law_behind" s_l_behind ["_law_near", "_law_far"] := raw_mk X G (fun _ _ _ _ _ _ us hl => match us, hl with | [_, _], _ => rfl) (fun _ _ _ _ _ _ t ws hl => match t, ws, hl with | true, [_, _], _ => rfl | false, [_, _], _ => rfl) a15 l15 c15 k15
  have R16 : Raw K mg "rings_in" s_rings_in ["turn"] := raw_mk X G (fun _ _ _ _ _ _ us hl => match us, hl with | [_], _ => rfl) (fun _ _ _ _ _ _ t ws hl => match t, ws, hl with | true, [_], _ => rfl | false, [_], _ => rfl) a16 l16 c16 k16
  have R17 : Raw K mg "kind_in" s_kind_in ["turn"] := raw_mk X G (fun _ _ _ _ _ _ us hl => match us, hl with | [_], _ => rfl) (fun _ _ _ _ _ _ t ws hl => match t, ws, hl with | true, [_], _ => rfl | false, [_], _ => rfl) a17 l17 c17 k17
  have R18 : Raw K mg "kind_of" s_kind_of ["turn"] := raw_mk X G (fun _ _ _ _ _ _ us hl => match us, hl with | [_], _ => rfl) (fun _ _ _ _ _ _ t ws hl => match t, ws, hl with | true, [_], _ => rfl | false, [_], _ => rfl) a18 l18 c18 k18
  have R19 : Raw K mg "is_even_turn" s_is_even_turn ["turn"] := raw_mk X G (fun _ _ _ _ _ _ us hl => match us, hl with | [_], _ => rfl) (fun _ _ _ _ _ _ t ws hl => match t, ws, hl with | true, [_], _ => rfl | false, [_], _ => rfl) a19 l19 c19 k19
  have R20 : Raw K mg "is_even" s_is_even ["turn"] := raw_mk X G (fun _ _ _ _ _ _ us hl => match us, hl with | [_], _ => rfl) (fun _ _ _ _ _ _ t ws hl => match t, ws, hl with | true, [_], _ => rfl | false, [_], _ => rfl) a20 l20 c20 k20
  have R21 : Raw K mg "back" s_back ["turn"] := raw_mk X G (fun _ _ _ _ _ _ us hl => match us, hl with | [_], _ => rfl) (fun _ _ _ _ _ _ t ws hl => match t, ws, hl with | true, [_], _ => rfl | false, [_], _ => rfl) a21 l21 c21 k21
  have R22 : Raw K mg "goes_with" s_goes_with ["turn", "turns"] := raw_mk X G (fun _ _ _ _ _ _ us hl => match us, hl with | [_, _], _ => rfl) (fun _ _ _ _ _ _ t ws hl => match t, ws, hl with | true, [_, _], _ => rfl | false, [_, _], _ => rfl) a22 l22 c22 k22
  have R23 : Raw K mg "commutes" s_commutes ["one", "other"] := raw_mk X G (fun _ _ _ _ _ _ us hl => match us, hl with | [_, _], _ => rfl) (fun _ _ _ _ _ _ t ws hl => match t, ws, hl with | true, [_, _], _ => rfl | false, [_, _], _ => rfl) a23 l23 c23 k23
  have R24 : Raw K mg "rings" s_rings ["turn"] := raw_mk X G (fun _ _ _ _ _ _ us hl => match us, hl with | [_], _ => rfl) (fun _ _ _ _ _ _ t ws hl => match t, ws, hl with | true, [_], _ => rfl | false, [_], _ => rfl) a24 l24 c24 k24
  have R25 : Raw K mg "_law_pairs_right" s_l_pairs_right ["_law_near", "_law_far", "_law_third"] := raw_mk X G (fun _ _ _ _ _ _ us hl => match us, hl with | [_, _, _], _ => rfl) (fun _ _ _ _ _ _ t ws hl => match t, ws, hl with | true, [_, _, _], _ => rfl | false, [_, _, _], _ => rfl) a25 l25 c25 k25
  have R26 : Raw K mg "moved" s_moved ["turn"] := raw_mk X G (fun _ _ _ _ _ _ us hl => match us, hl with | [_], _ => rfl) (fun _ _ _ _ _ _ t ws hl => match t, ws, hl with | true, [_], _ => rfl | false, [_], _ => rfl) a26 l26 c26 k26
  have R27 : Raw K mg "_law_loops" s_l_loops ["_law_spin_here"] := raw_mk X G (fun _ _ _ _ _ _ us hl => match us, hl with | [_], _ => rfl) (fun _ _ _ _ _ _ t ws hl => match t, ws, hl with | true, [_], _ => rfl | false, [_], _ => rfl) a27 l27 c27 k27
  have R28 : Raw K mg "_law_lens" s_l_lens ["_law_spin_here"] := raw_mk X G (fun _ _ _ _ _ _ us hl => match us, hl with | [_], _ => rfl) (fun _ _ _ _ _ _ t ws hl => match t, ws, hl with | true, [_], _ => rfl | false, [_], _ => rfl) a28 l28 c28 k28
  have R29 : Raw K mg "check_number" s_check_number ["given", "least", "most"] := raw_mk X G (fun _ _ _ _ _ _ us hl => match us, hl with | [_, _, _], _ => rfl) (fun _ _ _ _ _ _ t ws hl => match t, ws, hl with | true, [_, _, _], _ => rfl | false, [_, _, _], _ => rfl) a29 l29 c29 k29
  have R30 : Raw K mg "along" s_along ["size", "some_rings", "steps"] := raw_mk X G (fun _ _ _ _ _ _ us hl => match us, hl with | [_, _, _], _ => rfl) (fun _ _ _ _ _ _ t ws hl => match t, ws, hl with | true, [_, _, _], _ => rfl | false, [_, _, _], _ => rfl) a30 l30 c30 k30
  have R31 : Raw K mg "are_rings" s_are_rings ["given", "size"] := raw_mk X G (fun _ _ _ _ _ _ us hl => match us, hl with | [_, _], _ => rfl) (fun _ _ _ _ _ _ t ws hl => match t, ws, hl with | true, [_, _], _ => rfl | false, [_, _], _ => rfl) a31 l31 c31 k31
  have R32 : Raw K mg "turn_of" s_turn_of ["size", "rings"] := raw_mk X G (fun _ _ _ _ _ _ us hl => match us, hl with | [_, _], _ => rfl) (fun _ _ _ _ _ _ t ws hl => match t, ws, hl with | true, [_, _], _ => rfl | false, [_, _], _ => rfl) a32 l32 c32 k32
  have R33 : Raw K mg "is_kind" s_is_kind ["given"] := raw_mk X G (fun _ _ _ _ _ _ us hl => match us, hl with | [_], _ => rfl) (fun _ _ _ _ _ _ t ws hl => match t, ws, hl with | true, [_], _ => rfl | false, [_], _ => rfl) a33 l33 c33 k33
  have R34 : Raw K mg "check_kind" s_check_kind ["given"] := raw_mk X G (fun _ _ _ _ _ _ us hl => match us, hl with | [_], _ => rfl) (fun _ _ _ _ _ _ t ws hl => match t, ws, hl with | true, [_], _ => rfl | false, [_], _ => rfl) a34 l34 c34 k34
  have R35 : Raw K mg "how_many_turns" s_how_many_turns ["kind"] := raw_mk X G (fun _ _ _ _ _ _ us hl => match us, hl with | [_], _ => rfl) (fun _ _ _ _ _ _ t ws hl => match t, ws, hl with | true, [_], _ => rfl | false, [_], _ => rfl) a35 l35 c35 k35
  have R36 : Raw K mg "_law_crossed" s_l_crossed ["_law_spin_here"] := raw_mk X G (fun _ _ _ _ _ _ us hl => match us, hl with | [_], _ => rfl) (fun _ _ _ _ _ _ t ws hl => match t, ws, hl with | true, [_], _ => rfl | false, [_], _ => rfl) a36 l36 c36 k36
  have R37 : Raw K mg "_law_single_right" s_l_single_right ["_law_cup_here", "_law_spin_here"] := raw_mk X G (fun _ _ _ _ _ _ us hl => match us, hl with | [_, _], _ => rfl) (fun _ _ _ _ _ _ t ws hl => match t, ws, hl with | true, [_, _], _ => rfl | false, [_, _], _ => rfl) a37 l37 c37 k37
  have R38 : Raw K mg "_law_right" s_l_right ["_law_cup_here"] := raw_mk X G (fun _ _ _ _ _ _ us hl => match us, hl with | [_], _ => rfl) (fun _ _ _ _ _ _ t ws hl => match t, ws, hl with | true, [_], _ => rfl | false, [_], _ => rfl) a38 l38 c38 k38
  have R39 : Raw K mg "_law_cup" s_l_cup ["_law_cells", "_law_k"] := raw_mk X G (fun _ _ _ _ _ _ us hl => match us, hl with | [_, _], _ => rfl) (fun _ _ _ _ _ _ t ws hl => match t, ws, hl with | true, [_, _], _ => rfl | false, [_, _], _ => rfl) a39 l39 c39 k39
  refine ⟨PySem.W.fnOf "law" "law" (defArgs s_law) (defBody s_law) (defScope s_law) .none kV40 dc40 pm40 an40 cd40 ct40, fun s v => .of_eq rfl, fun base _ _ => ?_⟩
  have d_l_sip : Df l.prog w K mg base "_law_sip" 1 ["_law_cup_here", "_law_top"] (spC K f_l_sip) := ok_l_sip T R0
  have d_l_of : Df l.prog w K mg base "_law_of" 2 ["_law_cup_here", "_law_things"] (spC K f_l_of) := ok_l_of T R1 d_l_sip
  have d_l_many : Df l.prog w K mg base "_law_many" 3 ["_law_cup_here"] (spC K Pg.f_l_many) := ok_l_many T R2 d_l_of
  have d_l_spin : Df l.prog w K mg base "_law_spin" 2 ["_law_cup_here", "_law_many_here"] (spC K Pg.f_l_spin) := ok_l_spin T R3 d_l_sip
  have d_l_still : Df l.prog w K mg base "_law_still" 1 ["_law_many_here"] (spP K Pg.f_l_still) := ok_l_still T R4
  have d_is_integer : Df l.prog w K mg base "is_integer" 1 ["given", "least", "most"] (spP K Pg.f_is_integer) := ok_is_integer T R5
  have d_are_unlike_places : Df l.prog w K mg base "are_unlike_places" 2 ["places", "size"] (spP K Pg.f_are_unlike_places) := ok_are_unlike_places T R6 d_is_integer
  have d_is_turn : Df l.prog w K mg base "is_turn" 3 ["given"] (spP K Pg.f_is_turn) := ok_is_turn T R7 d_are_unlike_places
  have d_check_turn : Df l.prog w K mg base "check_turn" 4 ["given"] (spP K Pg.f_check_turn) := ok_check_turn T R8 d_is_turn
  have d_check_two_turns : Df l.prog w K mg base "check_two_turns" 5 ["one", "other"] (spP K Pg.f_check_two_turns) := ok_check_two_turns T R9 d_check_turn
  have d_one_then : Df l.prog w K mg base "one_then" 1 ["one", "other"] (spP K Pg.f_one_then) := ok_one_then T R10
  have d_then : Df l.prog w K mg base "then" 6 ["one", "other"] (spP K Pg.f_then) := ok_then T R11 d_check_two_turns d_one_then
  have d_led_back : Df l.prog w K mg base "led_back" 1 ["turn"] (spP K Pg.f_led_back) := ok_led_back T R12
  have d_renamed_by : Df l.prog w K mg base "renamed_by" 2 ["turn", "other"] (spP K Pg.f_renamed_by) := ok_renamed_by T R13 d_one_then d_led_back
  have d_turned_by : Df l.prog w K mg base "turned_by" 6 ["turn", "other"] (spP K Pg.f_turned_by) := ok_turned_by T R14 d_check_two_turns d_renamed_by
  have d_l_behind : Df l.prog w K mg base "_law_behind" 1 ["_law_near", "_law_far"] (spP K Pg.f_one_then) := ok_l_behind T R15
  have d_rings_in : Df l.prog w K mg base "rings_in" 1 ["turn"] (spP K Pg.f_rings_in) := ok_rings_in T R16
  have d_kind_in : Df l.prog w K mg base "kind_in" 2 ["turn"] (spP K Pg.f_kind_in) := ok_kind_in T R17 d_rings_in
  have d_kind_of : Df l.prog w K mg base "kind_of" 5 ["turn"] (spP K Pg.f_kind_of) := ok_kind_of T R18 d_check_turn d_kind_in
  have d_is_even_turn : Df l.prog w K mg base "is_even_turn" 2 ["turn"] (spP K Pg.f_is_even_turn) := ok_is_even_turn T R19 d_rings_in
  have d_is_even : Df l.prog w K mg base "is_even" 5 ["turn"] (spP K Pg.f_is_even) := ok_is_even T R20 d_check_turn d_is_even_turn
  have d_back : Df l.prog w K mg base "back" 5 ["turn"] (spP K Pg.f_back) := ok_back T R21 d_check_turn d_led_back
  have d_goes_with : Df l.prog w K mg base "goes_with" 2 ["turn", "turns"] (spP K Pg.f_goes_with) := ok_goes_with T R22 d_one_then
  have d_commutes : Df l.prog w K mg base "commutes" 6 ["one", "other"] (spP K Pg.f_commutes) := ok_commutes T R23 d_check_two_turns d_goes_with
  have d_rings : Df l.prog w K mg base "rings" 5 ["turn"] (spP K Pg.f_rings) := ok_rings T R24 d_check_turn d_rings_in
  have d_l_pairs_right : Df l.prog w K mg base "_law_pairs_right" 7 ["_law_near", "_law_far", "_law_third"] (spP K Pg.f_l_pairs_right_k02) := ok_l_pairs_right T R25 d_then d_l_behind d_kind_of d_is_even d_back d_turned_by d_rings d_commutes
  have d_moved : Df l.prog w K mg base "moved" 5 ["turn"] (spP K Pg.f_moved) := ok_moved T R26 d_check_turn
  have d_l_loops : Df l.prog w K mg base "_law_loops" 1 ["_law_spin_here"] (spP K Pg.f_l_loops) := ok_l_loops T R27
  have d_l_lens : Df l.prog w K mg base "_law_lens" 2 ["_law_spin_here"] (spP K Pg.f_l_lens) := ok_l_lens T R28 d_l_loops
  have d_check_number : Df l.prog w K mg base "check_number" 2 ["given", "least", "most"] (spP K Pg.f_check_number) := ok_check_number T R29 d_is_integer
  have d_along : Df l.prog w K mg base "along" 1 ["size", "some_rings", "steps"] (spP K Pg.f_along) := ok_along T R30
  have d_are_rings : Df l.prog w K mg base "are_rings" 3 ["given", "size"] (spP K Pg.f_are_rings) := ok_are_rings T R31 d_are_unlike_places
  have d_turn_of : Df l.prog w K mg base "turn_of" 4 ["size", "rings"] (spP K Pg.f_turn_of) := ok_turn_of T R32 d_check_number d_are_rings d_along
  have d_is_kind : Df l.prog w K mg base "is_kind" 2 ["given"] (spP K Pg.f_is_kind) := ok_is_kind T R33 d_is_integer
  have d_check_kind : Df l.prog w K mg base "check_kind" 3 ["given"] (spP K Pg.f_check_kind) := ok_check_kind T R34 d_is_kind
  have d_how_many_turns : Df l.prog w K mg base "how_many_turns" 4 ["kind"] (spP K Pg.f_how_many_turns) := ok_how_many_turns T R35 d_check_kind
  have d_l_crossed : Df l.prog w K mg base "_law_crossed" 1 ["_law_spin_here"] (spP K Pg.f_l_crossed) := ok_l_crossed T R36
  have d_l_single_right : Df l.prog w K mg base "_law_single_right" 6 ["_law_cup_here", "_law_spin_here"] (spC K Pg.f_l_single_right_k02) := ok_l_single_right T R37 d_l_loops d_rings d_kind_of d_is_even d_moved d_l_crossed d_l_lens d_l_sip d_turn_of d_back d_l_behind d_l_still d_how_many_turns
  have d_l_right : Df l.prog w K mg base "_law_right" 8 ["_law_cup_here"] (spC K Pg.f_l_right_k02) := ok_l_right T R38 d_l_many d_l_spin d_l_single_right d_l_pairs_right d_back d_l_still d_l_sip d_l_of d_then d_moved d_kind_of
  have d_l_cup : Df l.prog w K mg base "_law_cup" 1 ["_law_cells", "_law_k"] (spN K f_l_cup) := ok_l_cup T R39
  exact ok_law T (fun_mk l40 c40 k40) d_l_cup d_l_right
end W_k02
end Eng

instance tb_W_k02 : Eng.Tb := ⟨[]⟩
open PySem PySem.W PyProof.Rows in
set_option maxRecDepth 100000 in
set_option maxHeartbeats 0 in
theorem PySem.Challenge.cw_seatbuttons_k02_whole_turns_and_their_ri_holds : PySem.Challenge.rw_seatbuttons_k02_whole_turns_and_their_ri.Holds := by
  w_on; o_law; k_head; (case hw => w_witness2)
  k_fill
  refine Eng.walkE (l := PySem.Challenge.rw_seatbuttons_k02_whole_turns_and_their_ri) (k := 9) (x := "_law_cells") (f := Eng.f_law Eng.Pg.f_l_right_k02) rfl rfl rfl ⟨rfl, by decide, by decide⟩ (fun w h Y => PySem.W.kIn_of Y) ?F ?pure
  case F =>
    intro w mg fa h KX G hmg
    refine' Eng.W_k02.all_mk KX G hmg ?a0 ?l0 ?c0 ?k0 ?a1 ?l1 ?c1 ?k1 ?a2 ?l2 ?c2 ?k2 ?a3 ?l3 ?c3 ?k3 ?a4 ?l4 ?c4 ?k4 ?a5 ?l5 ?c5 ?k5 ?a6 ?l6 ?c6 ?k6 ?a7 ?l7 ?c7 ?k7 ?a8 ?l8 ?c8 ?k8 ?a9 ?l9 ?c9 ?k9 ?a10 ?l10 ?c10 ?k10 ?a11 ?l11 ?c11 ?k11 ?a12 ?l12 ?c12 ?k12 ?a13 ?l13 ?c13 ?k13 ?a14 ?l14 ?c14 ?k14 ?a15 ?l15 ?c15 ?k15 ?a16 ?l16 ?c16 ?k16 ?a17 ?l17 ?c17 ?k17 ?a18 ?l18 ?c18 ?k18 ?a19 ?l19 ?c19 ?k19 ?a20 ?l20 ?c20 ?k20 ?a21 ?l21 ?c21 ?k21 ?a22 ?l22 ?c22 ?k22 ?a23 ?l23 ?c23 ?k23 ?a24 ?l24 ?c24 ?k24 ?a25 ?l25 ?c25 ?k25 ?a26 ?l26 ?c26 ?k26 ?a27 ?l27 ?c27 ?k27 ?a28 ?l28 ?c28 ?k28 ?a29 ?l29 ?c29 ?k29 ?a30 ?l30 ?c30 ?k30 ?a31 ?l31 ?c31 ?k31 ?a32 ?l32 ?c32 ?k32 ?a33 ?l33 ?c33 ?k33 ?a34 ?l34 ?c34 ?k34 ?a35 ?l35 ?c35 ?k35 ?a36 ?l36 ?c36 ?k36 ?a37 ?l37 ?c37 ?k37 ?a38 ?l38 ?c38 ?k38 ?a39 ?l39 ?c39 ?k39 ?a40 ?l40 ?c40 ?k40 ?g_MOST_PLACES ?i_factorial ?z_abs ?z_all ?z_bool ?z_divmod ?z_enumerate ?z_int ?z_isinstance ?z_len ?z_list ?z_max ?z_min ?z_range ?z_repr ?z_set ?z_sorted ?z_sum ?z_tuple
    (case a0 => k_is)
    (case l0 => k_is)
    (case c0 => k_is)
    (case k0 => k_is)
    (case a1 => k_is)
    (case l1 => k_is)
    (case c1 => k_is)
    (case k1 => k_is)
    (case a2 => k_is)
    (case l2 => k_is)
    (case c2 => k_is)
    (case k2 => k_is)
    (case a3 => k_is)
    (case l3 => k_is)
    (case c3 => k_is)
    (case k3 => k_is)
    (case a4 => k_is)
    (case l4 => k_is)
    (case c4 => k_is)
    (case k4 => k_is)
    (case a5 => k_is)
    (case l5 => k_is)
    (case c5 => k_is)
    (case k5 => k_is)
    (case a6 => k_is)
    (case l6 => k_is)
    (case c6 => k_is)
    (case k6 => k_is)
    (case a7 => k_is)
    (case l7 => k_is)
    (case c7 => k_is)
    (case k7 => k_is)
    (case a8 => k_is)
    (case l8 => k_is)
    (case c8 => k_is)
    (case k8 => k_is)
    (case a9 => k_is)
    (case l9 => k_is)
    (case c9 => k_is)
    (case k9 => k_is)
    (case a10 => k_is)
    (case l10 => k_is)
    (case c10 => k_is)
    (case k10 => k_is)
    (case a11 => k_is)
    (case l11 => k_is)
    (case c11 => k_is)
    (case k11 => k_is)
    (case a12 => k_is)
    (case l12 => k_is)
    (case c12 => k_is)
    (case k12 => k_is)
    (case a13 => k_is)
    (case l13 => k_is)
    (case c13 => k_is)
    (case k13 => k_is)
    (case a14 => k_is)
    (case l14 => k_is)
    (case c14 => k_is)
    (case k14 => k_is)
    (case a15 => k_is)
    (case l15 => k_is)
    (case c15 => k_is)
    (case k15 => k_is)
    (case a16 => k_is)
    (case l16 => k_is)
    (case c16 => k_is)
    (case k16 => k_is)
    (case a17 => k_is)
    (case l17 => k_is)
    (case c17 => k_is)
    (case k17 => k_is)
    (case a18 => k_is)
    (case l18 => k_is)
    (case c18 => k_is)
    (case k18 => k_is)
    (case a19 => k_is)
    (case l19 => k_is)
    (case c19 => k_is)
    (case k19 => k_is)
    (case a20 => k_is)
    (case l20 => k_is)
    (case c20 => k_is)
    (case k20 => k_is)
    (case a21 => k_is)
    (case l21 => k_is)
    (case c21 => k_is)
    (case k21 => k_is)
    (case a22 => k_is)
    (case l22 => k_is)
    (case c22 => k_is)
    (case k22 => k_is)
    (case a23 => k_is)
    (case l23 => k_is)
    (case c23 => k_is)
    (case k23 => k_is)
    (case a24 => k_is)
    (case l24 => k_is)
    (case c24 => k_is)
    (case k24 => k_is)
    (case a25 => k_is)
    (case l25 => k_is)
    (case c25 => k_is)
    (case k25 => k_is)
    (case a26 => k_is)
    (case l26 => k_is)
    (case c26 => k_is)
    (case k26 => k_is)
    (case a27 => k_is)
    (case l27 => k_is)
    (case c27 => k_is)
    (case k27 => k_is)
    (case a28 => k_is)
    (case l28 => k_is)
    (case c28 => k_is)
    (case k28 => k_is)
    (case a29 => k_is)
    (case l29 => k_is)
    (case c29 => k_is)
    (case k29 => k_is)
    (case a30 => k_is)
    (case l30 => k_is)
    (case c30 => k_is)
    (case k30 => k_is)
    (case a31 => k_is)
    (case l31 => k_is)
    (case c31 => k_is)
    (case k31 => k_is)
    (case a32 => k_is)
    (case l32 => k_is)
    (case c32 => k_is)
    (case k32 => k_is)
    (case a33 => k_is)
    (case l33 => k_is)
    (case c33 => k_is)
    (case k33 => k_is)
    (case a34 => k_is)
    (case l34 => k_is)
    (case c34 => k_is)
    (case k34 => k_is)
    (case a35 => k_is)
    (case l35 => k_is)
    (case c35 => k_is)
    (case k35 => k_is)
    (case a36 => k_is)
    (case l36 => k_is)
    (case c36 => k_is)
    (case k36 => k_is)
    (case a37 => k_is)
    (case l37 => k_is)
    (case c37 => k_is)
    (case k37 => k_is)
    (case a38 => k_is)
    (case l38 => k_is)
    (case c38 => k_is)
    (case k38 => k_is)
    (case a39 => k_is)
    (case l39 => k_is)
    (case c39 => k_is)
    (case k39 => k_is)
    (case a40 => k_is)
    (case l40 => k_is)
    (case c40 => k_is)
    (case k40 => k_is)
    (case g_MOST_PLACES => k_is)
    (case i_factorial => k_is)
    (case z_abs => k_is)
    (case z_all => k_is)
    (case z_bool => k_is)
    (case z_divmod => k_is)
    (case z_enumerate => k_is)
    (case z_int => k_is)
    (case z_isinstance => k_is)
    (case z_len => k_is)
    (case z_list => k_is)
    (case z_max => k_is)
    (case z_min => k_is)
    (case z_range => k_is)
    (case z_repr => k_is)
    (case z_set => k_is)
    (case z_sorted => k_is)
    (case z_sum => k_is)
    (case z_tuple => k_is)
  case pure =>
    intro ns hl hb
    exact Eng.law_pure Eng.Pg.pure_l_right_k02 hl

